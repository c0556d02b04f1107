/- What is proved here: the mE own store. -/
import Derived.Test.YtlgidcmmgohagaaGreatFileM02
namespace Go.Proofs.YtlgidcmmgohagaaGreat
open Go.RowKit Go.Sort Go.Shelf Go.Proofs.Tryz
set_option linter.unusedVariables false
set_option maxRecDepth 100000
set_option maxHeartbeats 16000000
variable {v:Value}{b base c cap cap' ec el g i n p r size z:Nat}{T e t:gi}{news xs:fQ}{hi k x:Int}{d:eD}{F F' G:Nat->Prop}{W w w' w1 w2:World}{a ea:fD}{o1:Obj}{eC:List Ob}{own:Option Nat}{cs:Array Value}
def yU (eC:List Ob)(e:eN):Int:=((eC[e.2.2.toNat]?).map (·.high)).getD 0
def sk (eC:List Ob)(es:List eN):Int:=es.foldl (fun h e=>max h (1+yU eC e)) 0
theorem yV(eC:List Ob)(es:List eN)(e:eN):sk eC (es++[e])=max (sk eC es) (1+yU eC e):=by
 simp only[sk,SV,Aq,List.foldl_nil]
theorem Xi:(prog.info? 108).map (fun i=>(i.zero,i.size,i.bytes))=some (some (.agg #[eJ 0,.string ByteArray.empty,.slice none 0 0,eJ 0]),4,56):=by kernel_rfl
theorem Xj(r:Nat)(a:fD)(cap:Nat)(eC:List Ob)(o:Ob)(w:World)(h:jT F w r a cap eC)(ho:nk G w o)(i:Nat)(hf:findAt eC o=some i):
  gc 78 #[hh r,nr o] w (pB (eJ i) w):=by
 have c:∀B,ik w (w.alloc B):=fun B=>(lh _ _).alloc (kx _) _;have b:=fun B:Obj=>yg r a cap eC o (w.alloc B) (h.below (c B)) (ho.below (c B));rw[hf]at b;have g:decide ((0:Int)<=(i:Int))=true:=by simp
 unfold nr at b ⊢;unfold FF at b;have d:∀B:Obj,gc 149 #[hh r,.agg #[eJ o.kind,.string o.data,.slice o.ea o.el o.ec,eJ o.high]] (w.alloc B) fun e w'=>e=.returned (eJ i)/\Below (w.alloc B).heap.size (w.alloc B) w':=b
 clear b;go_enter func78,ntmps78;go_wp2_with fail;refine(d _).mono ?_;rintro e w1 ⟨rfl,f⟩;go_wp2;go_ret;exact⟨rfl,(c _).trans (f.mono (by simp))⟩
theorem TM(r:Nat)(a:fD)(cap:Nat)(eC:List Ob)(o:Ob)(w:World)(h:jT F w r a cap eC)(ho:nk G w o)(hf:findAt eC o=none)(hn:400<=eC.length):
  gc 78 #[hh r,nr o] w (pB (eJ (-1)) w):=by
 have c:∀B,ik w (w.alloc B):=fun B=>(lh _ _).alloc (kx _) _;have b:=fun B:Obj=>yg r a cap eC o (w.alloc B) (h.below (c B)) (ho.below (c B));rw[hf]at b;unfold nr at b ⊢;have f:∀B:Obj,gc 149 #[hh r,.agg #[eJ o.kind,.string o.data,.slice o.ea o.el o.ec,eJ o.high]] (w.alloc B) fun e w'=>e=.returned (eJ (-1))/\Below (w.alloc B).heap.size (w.alloc B) w':=b;clear b;go_enter func78,ntmps78;go_wp2_with fail;refine(f _).mono ?_;rintro e w1 ⟨rfl,g⟩;have d:=(c _).trans (g.mono (by simp));have i:=(h.below d).c0;go_wp2;go_ret;exact⟨rfl,d⟩
def lH (W:World)(b:Nat)(k:Int)(d:eD)(ea:fD)(el ec:Nat)(hi:Int):Prop:=W.heap[b]?=some (.cells #[.int .i64 k,.string d,.slice ea el ec,.int .i64 hi] 108 (0,0))
theorem lH.parts(h:lH W b k d ea el ec hi):W.cell? (eI b 2)=some (.slice ea el ec)/\W.cell? (eI b 3)=some (eJ hi)/\W.frozen? (eI b 3)=false:=by
 unfold lH at h;refine⟨?_,?_,?_⟩<;>simp[World.cell?,World.frozen?,h]
theorem lH.Zr(h:lH W b k d ea el ec hi):W.cell? (eI b 0)=some (eJ k)/\W.cell? (eI b 1)=some (.string d):=by
 unfold lH at h;refine⟨?_,?_⟩<;>simp[World.cell?,h]
theorem FJ{r:Option Nat}(hg:(w.alloc o1).drew.grownBy w1 r)(hp:p<w.heap.size)(hr:some p≠r)(h:w.cell? (eI p i)=some v):w1.cell? (eI p i)=some v:=by
 rw[jP (a:=(eI p i)) (hg.block p (by simp;omega) hr)];show(w.alloc o1).cell? (eI p i)=_;rw[Zg _ _ _ hp,h]
theorem AO{r:Option Nat}(hg:(w.alloc o1).drew.grownBy w1 r)(hp:p<w.heap.size)(hr:some p≠r)(h:w.frozen? (eI p i)=false):w1.frozen? (eI p i)=false:=by
 rw[SM (a:=(eI p i)) (hg.block p (by simp;omega) hr)];show(w.alloc o1).frozen? (eI p i)=_;rw[cnf _ _ _ hp,h]
theorem lH.high(h:lH W b k d ea el ec hi)(x:Int):lH (W.setCell (eI b 3) (eJ x)) b k d ea el ec x:=by
 unfold lH at h ⊢;simp[World.setCell,Am,h]
theorem ry(h:eA F w w')(q:Nat):eA F w (w'.drewN q):=⟨h.os,h.tape,h.output,h.size,h.block⟩
theorem PM(h:eA (fun k=>k=b) w w'):eA (fun k=>k=b) w (w'.setCell (eI b i) v):=
 ⟨h.os,h.tape,h.output,by simpa using h.size,fun k hk hne=>by rw[jQ _ _ _ _ hne];exact h.block k hk hne⟩
theorem PS{w wr w2:World}(h:jT F w r a cap eC)(kb:∀q,q<w.heap.size->wr.heap[q]?=w.heap[q]?)(PT:w.heap.size<wr.heap.size)
  (hq:wr.os=w.os/\wr.tape=w.tape/\wr.output=w.output)(iD:some r≠(Value.slice a eC.length cap).ownBlock)(d:w2.ownsRow 0 108 4 (.slice (some (eI g 0)) (eC.length+1) cap') (eC.length+1) (fN eC++news))
  (hg:(wr.alloc o1).drew.grownBy w2 (Value.slice a eC.length cap).ownBlock)(b:(Value.slice (some (eI g 0)) (eC.length+1) cap').ownBlock=(Value.slice a eC.length cap).ownBlock\/(Value.slice (some (eI g 0)) (eC.length+1) cap').ownBlock=some (wr.alloc o1).drew.heap.size):
  (w2.setCell (eI r 0) (.slice (some (eI g 0)) (eC.length+1) cap')).heap[r]?=some (.cells #[.slice (some (eI g 0)) (eC.length+1) cap'] 94 (0,0))/\(w2.setCell (eI r 0) (.slice (some (eI g 0)) (eC.length+1) cap')).ownsRow 0 108 4 (.slice (some (eI g 0)) (eC.length+1) cap') (eC.length+1) (fN eC++news)/\
    ((some g:Option Nat)=(Value.slice a eC.length cap).ownBlock\/w.heap.size<=g)/\eA (fun k=>k=r\/some k=(Value.slice a eC.length cap).ownBlock) w (w2.setCell (eI r 0) (.slice (some (eI g 0)) (eC.length+1) cap')):=by
 have c:∀k,k<w.heap.size->some k≠(Value.slice a eC.length cap).ownBlock->w2.heap[k]?=w.heap[k]?:=by
  intro k hk hne;rw[hg.block k (by simp;omega) hne];show(wr.alloc o1).heap[k]?=_;rw[mA _ _ _ (by omega),kb k hk]
 have f:w2.heap[r]?=some (.cells #[.slice a eC.length cap] 94 (0,0)):=by rw[c r h.lt iD,h.hr]
 have i:g≠r:=by
  rintro rfl;rcases b with h1|h1
  ·exact iD h1
  ·have:=h.lt;simp[Value.ownBlock]at h1;omega
 have hs:=hg.size;simp at hs;refine⟨?_,?_,?_,⟨hg.os.trans hq.1,hg.tape.trans hq.2.1,hg.output.trans hq.2.2,by simp;omega,?_⟩⟩
 ·simp[World.setCell,Am,f]
 ·obtain⟨h1,h2⟩:=d
  refine⟨h1,?_⟩;rcases h2 with⟨h,_⟩|⟨n,o,j,hv,l,m,r⟩
  ·cases h
  ·cases hv
   exact Or.inr ⟨g,cap',j,rfl,l,by rw[jQ _ _ _ _ i];exact m,r⟩
 ·rcases b with h|h
  ·exact Or.inl h
  ·simp[Value.ownBlock]at h;exact Or.inr (by omega)
 ·intro k hk hne
  rw[jQ _ _ _ _ (fun e=>hne (.inl e)),c k hk (fun e=>hne (.inr e))]
theorem TN(r:Nat)(a:fD)(cap:Nat)(eC:List Ob)(o:Ob)(w:World)(h:jT F w r a cap eC)(ho:nk G w o)(Y:o.high=0)(hf:findAt eC o=none)(hn:eC.length<400)
  (I:∀e∈o.eR,0<=e.2.2/\e.2.2<(eC.length:Int)):
  gc 78 #[hh r,nr o] w fun e w'=>e=.returned (eJ eC.length)/\
   ∃g cap',w'.heap[r]?=some (.cells #[.slice (some (eI g 0)) (eC.length+1) cap'] 94 (0,0))/\w'.ownsRow 0 108 4 (.slice (some (eI g 0)) (eC.length+1) cap') (eC.length+1) (fN eC++Ob.cells { o with high:=sk eC o.eR })/\
    ((some g:Option Nat)=(Value.slice a eC.length cap).ownBlock\/w.heap.size<=g)/\eA (fun k=>k=r\/some k=(Value.slice a eC.length cap).ownBlock) w w':=by
 obtain⟨Z,hi,aa,ab,ac⟩:=iq Xi;have u:∀B,ik w (w.alloc B):=fun B=>(lh _ _).alloc (kx _) _;have p:=fun B:Obj=>yg r a cap eC o (w.alloc B) (h.below (u B)) (ho.below (u B));rw[hf]at p;unfold nr at p ⊢;have v:∀B:Obj,gc 149 #[hh r,.agg #[eJ o.kind,.string o.data,.slice o.ea o.el o.ec,eJ o.high]] (w.alloc B) fun e w'=>e=.returned (eJ (-1))/\Below (w.alloc B).heap.size (w.alloc B) w':=p;clear p;have ad:Hid (∀x∈eC,0<=x.high/\x.high<=5):=fun x hx=>⟨(h.zV x hx).HT,(h.zV x hx).HV⟩;have ae:Hid (∀e∈o.eR,0<=e.2.2/\e.2.2<(eC.length:Int)):=I;have aq:o.el<=16:=ho.few;have J:Hid (o.eR.length=o.el):=ho.len;clear I;rw[Y]at v ⊢;go_enter func78,ntmps78;go_wp2_with fail;refine(v _).mono ?_;rintro e w1 ⟨rfl,y⟩;have m:=(u _).trans (y.mono (by simp));have ar:=(h.below m).c0;have K:r<w.heap.size:=h.lt;have af:Hid (lH w1 w.heap.size o.kind o.data o.ea o.el o.ec 0):=by
  show w1.heap[w.heap.size]?=_;rw[y.block _ (by simp)];exact su _ _
 have ag:w.heap.size<w1.heap.size:=by have:=y.size;simp at this;omega
 clear v;go_wp2
 go_loopw [6] (fun i wr=>∃k:Nat,k<=o.el/\i=.int .i64 k/\Hid (eA (fun k=>k=w.heap.size) w1 wr)/\Hid (lH wr w.heap.size o.kind o.data o.ea o.el o.ec (sk eC (o.eR.take k)))/\0<=sk eC (o.eR.take k)/\sk eC (o.eR.take k)<=6) (fun i _=>o.el-(intOf i).toNat)
 case atStart=>exact⟨0,tk _,rfl,⟨rfl,rfl,rfl,kx _,fun _ _ _=>rfl⟩,af,by show(0:Int)<=0;omega,by show(0:Int)<=6;omega⟩
 case round=>
  obtain⟨k,hk,rfl,c,n,L,M⟩:=hrel;have kb:∀q,q<w.heap.size->wr.heap[q]?=w.heap[q]?:=fun q hq=>(c.out.block q (by omega) (by omega)).trans (m.block q hq);have PT:w.heap.size<wr.heap.size:=lO ag c.out.size;have N:wr.cell? (eI r 0)=some (.slice a eC.length cap):=(jP (a:=(eI r 0)) (kb r K)).trans h.c0;obtain⟨ah,z,fz⟩:=n.out.parts;by_cases ai:k<o.el
  ·have A:k<o.eR.length:=by rw[J.out];exact ai
   have s:=ho.row;obtain⟨C,au,O⟩:=fj s (by omega);have P:=(nH O).1;rw[P]at s ah;clear P O;have aj:C<w.heap.size:=eK s rfl;obtain⟨_,_,e2⟩:=ld (off:=0) (jn s) A;rw[iP]at e2;obtain⟨ak,al⟩:=ae.out _ (kj A);obtain⟨j,hj⟩:∃j:Nat,o.eR[k].2.2=(j:Int):=⟨o.eR[k].2.2.toNat,by omega⟩;have D:j<eC.length:=by omega
   rw[hj]at e2;have av:=(jP (a:=(eI C (k*3+2))) (kb C aj)).trans e2;obtain⟨g,Q,am,_,_,_,c3⟩:=ko h.row rfl D;rw[Q]at N;clear Q;have aw:=(jP (a:=(eI g (j*4+3))) (kb g am)).trans c3;obtain⟨ax,ay⟩:=ad.out eC[j] (kj D);have l:Hid (sk eC (o.eR.take (k+1))=max (sk eC (o.eR.take k)) (1+eC[j].high)):=by
    show _=_;rw[vZ A,yV];unfold yU;rw[hj,ow,jy D];rfl
   obtain⟨b,d⟩:∃b,b=sk eC (o.eR.take k):=⟨_,rfl⟩;rw[<-d]at L M z;have f:Hid (b=sk eC (o.eR.take k)):=d;clear c3 e2 d hj ak al;by_cases ig:b<1+eC[j].high
   ·go_wp2
    go_quiet (fail)
    go_wp2;go_roundw
    case rel=>
     refine⟨k+1,by omega,by go_num,PM (ry c.out nq),?_,by rw[l.out,<-f.out];omega,by rw[l.out,<-f.out];omega⟩;rw[l.out,<-f.out,Int.max_eq_right (by omega)];exact lH.high (W:=wr.drewN nq) n.out _
    case measure=>simp[intOf];omega
   ·go_wp2
    go_quiet (fail)
    go_wp2;go_roundw
    case rel=>
     refine⟨k+1,by omega,by go_num,ry c.out nq,?_,by rw[l.out,<-f.out];omega,by rw[l.out,<-f.out];omega⟩;rw[l.out,<-f.out,Int.max_eq_left (by omega),f.out];exact n.out
    case measure=>simp[intOf];omega
  ·have az:k=o.el:=by omega
   have R:Hid (o.eR.take k=o.eR):=lV (by rw[J.out];omega);rw[R.out]at z;have S:Hid (lH wr w.heap.size o.kind o.data o.ea o.el o.ec (sk eC o.eR)):=by have:=n.out;rwa [R.out]at this
   obtain⟨q0,aA⟩:=S.out.Zr;obtain⟨b,d⟩:∃b,b=sk eC o.eR:=⟨_,rfl⟩;rw[<-d]at z S;have an:Hid (b=sk eC o.eR):=d;clear L M d n;have ao:Hid (wr.ownsRow 0 108 4 (.slice a eC.length cap) eC.length (fN eC)):=eQ h.row (fun g hg=>kb g (eK h.row hg));have E:Hid (some r≠(Value.slice a eC.length cap).ownBlock):=fX h.row h.hr (by decide);have ap:Hid (∀T∈[Value.int .i64 o.kind,.string o.data,.slice o.ea o.el o.ec,eJ b],T.oneCell'=true):=by intro T hu;simp at hu;rcases hu with rfl|rfl|rfl|rfl<;>rfl
   have sw:wr.frozen? (eI r 0)=false:=(SM (a:=(eI r 0)) (kb r K)).trans h.f0;have U:r<wr.heap.size:=by omega
   go_wp2
   go_region_law(refine tR rfl (.tmp 51) (.tmp 53) 92 rfl 0 108 Z _ 4 56 underlying92 hi aa ab ac rfl (by decide) (.slice a eC.length cap) eC.length (fN eC) (by simp[Act.eval]) (ao.out.alloc _) (eI wr.heap.size 0) 1 1 [eJ o.kind,.string o.data,.slice o.ea o.el o.ec,eJ b] (by simp[Act.eval]) rfl (Tq wr (eJ o.kind) (.string o.data) (.slice o.ea o.el o.ec) (eJ b) 108) ap.out (by unfold maxLen;omega) (by omega) (tk _) ?_;intro aB w2 H t V;obtain⟨g,cap',rfl⟩:=fj H (by omega);have aC:=FJ t U E.out N;have aD:=AO t U E.out sw)
   all_goals
    have X:Hid _:=PS h kb PT ⟨c.out.os.trans m.os,c.out.tape.trans m.tape,c.out.output.trans m.output⟩ E.out H t V;clear H t V;go_wp2;go_ret;rw[an.out]at X;exact⟨by simp,g,cap',X.out⟩
theorem ww(h:w.ownsRow base e size v n xs)(hg:v.ownBlock=some g):∃a,w.heap[g]?=some (.cells a e (0,0)):=by
 rcases h.2 with⟨rfl,_⟩|⟨c,cap,a,rfl,_,b,_⟩
 ·simp[Value.ownBlock]at hg
 ·simp[Value.ownBlock]at hg;subst hg;exact⟨a,b⟩
def fh (F:Nat->Prop)(w:World)(r:Nat)(eC:List Ob):Prop:=∃a cap,jT F w r a cap eC
theorem fh.keep(h:fh F w r eC)(hF:∀k,F k->F' k)(hk:∀k,F k->w'.heap[k]?=w.heap[k]?):fh F' w' r eC:=by
 obtain⟨a,cap,h⟩:=h;exact⟨a,cap,h.keep hF hk⟩
theorem fh.below(h:fh F w r eC)(b:ik w w')(hF:∀k,F k->F' k):fh F' w' r eC:=by
 obtain⟨a,cap,h⟩:=h;have h':=h.below b;exact⟨a,cap,h'.keep hF (fun _ _=>rfl)⟩
theorem foldl_max(f:eN->Int):∀(es:List eN) (h:Int),h<=es.foldl (fun h e=>max h (f e)) h
 |[],_=>sH _
 |e::r,h=>Int.le_trans (Int.le_max_left _ _) (foldl_max f r _)
theorem CU(eC:List Ob)(es:List eN):0<=sk eC es:=foldl_max (fun e=>1+yU eC e) es 0
theorem jT.put{o:Ob}(h:jT F w r a cap eC)(ho:nk G w o)(d:sk eC o.eR<=5)(hn:eC.length<400)
  (h1:w'.heap[r]?=some (.cells #[.slice (some (eI g 0)) (eC.length+1) cap'] 94 (0,0)))(h2:w'.ownsRow 0 108 4 (.slice (some (eI g 0)) (eC.length+1) cap') (eC.length+1) (fN eC++Ob.cells { o with high:=sk eC o.eR }))
  (h3:(some g:Option Nat)=(Value.slice a eC.length cap).ownBlock\/w.heap.size<=g)(b:eA (fun k=>k=r\/some k=(Value.slice a eC.length cap).ownBlock) w w'):
  jT (fun k=>F k\/G k\/(w.heap.size<=k/\k<w'.heap.size)) w' r (some (eI g 0)) cap' (eC++[{ o with high:=sk eC o.eR }])/\eA F w w':=by
 have hl:(eC++[{ o with high:=sk eC o.eR }]).length=eC.length+1:=by simp
 have items:∀{v:Value} {n:Nat} {xs:fQ},w.ownsRow 0 112 3 v n xs->w'.ownsRow 0 112 3 v n xs:=by
  intro v n xs hr;refine eQ hr fun k hk=>?_
  obtain⟨f,c⟩:=ww hr hk;refine b.block k (eK hr hk) ?_;rintro(rfl|e)
  ·have:=h.hr;rw[c]at this;cases this
  ·exact fX h.row c (by decide) e
 refine⟨⟨.inl h.fr,?_,?_,?_,?_,?_⟩,⟨b.os,b.tape,b.output,b.size,?_⟩⟩
 ·intro k hk
  rcases h3 with e|e
  ·refine .inl (h.fa k ?_)
   rw[<-e];exact hk
  ·simp only[Value.ownBlock,mZ]at hk
   subst hk;exact .inr (.inr ⟨e,eK h2 rfl⟩)
 ·rw[hl];exact h1
 ·rw[hl,wE];exact h2
 ·rw[hl];omega
 ·intro x hx
  rcases sB.1 hx with hx|hx
  ·have:=h.zV x hx
   exact⟨this.kind,this.size,this.len,this.few,this.HT,this.HV,items this.row,fun k hk=>.inl (this.own k hk)⟩
  ·rw[nh.1 hx]
   exact⟨ho.kind,ho.size,ho.len,ho.few,CU _ _,d,items ho.row,fun k hk=>.inr (.inl (ho.own k hk))⟩
 ·intro k hk TF
  refine b.block k hk ?_;rintro(rfl|e)
  ·exact TF h.fr
  ·exact TF (h.fa k e.symm)
def AP (eC a:List Ob)(o:Ob)(x:Int):Prop:=
 (∃i:Nat,findAt eC o=some i/\a=eC/\x=i)\/(findAt eC o=none/\400<=eC.length/\a=eC/\x=-1)\/
 (findAt eC o=none/\eC.length<400/\a=eC++[{ o with high:=sk eC o.eR }]/\x=eC.length)
def Grow (F G:Nat->Prop)(w w':World)(k:Nat):Prop:=F k\/G k\/(w.heap.size<=k/\k<w'.heap.size)
theorem HX(h:fh F w r eC)(o:Ob)(ho:nk G w o)(f:o.high=0)(j:sk eC o.eR<=5)(l:∀e∈o.eR,0<=e.2.2/\e.2.2<(eC.length:Int)):
  gc 78 #[hh r,nr o] w fun e w'=>∃x d,e=.returned (eJ x)/\AP eC d o x/\fh (Grow F G w w') w' r d/\eA F w w':=by
 obtain⟨a,cap,h⟩:=h;have inv:fh F w r eC:=⟨a,cap,h⟩;cases hf:findAt eC o with
 |some i=>
  refine(Xj r a cap eC o w h ho i hf).mono fun e w' ⟨b,c⟩=>?_;exact⟨_,eC,b,.inl ⟨i,hf,rfl,rfl⟩,inv.below c (fun k hk=>.inl hk),eA.eE c⟩
 |none=>
  by_cases hn:400<=eC.length
  ·refine(TM r a cap eC o w h ho hf hn).mono fun e w' ⟨b,c⟩=>?_
   exact⟨_,eC,b,.inr (.inl ⟨hf,hn,rfl,rfl⟩),inv.below c (fun k hk=>.inl hk),eA.eE c⟩
  ·refine(TN r a cap eC o w h ho f hf (by omega) l).mono fun e w' ⟨b,g,cap',h1,h2,h3,m⟩=>?_
   have:=h.put ho j (by omega) h1 h2 h3 m
   exact⟨_,_,b,.inr (.inr ⟨hf,by omega,rfl,rfl⟩),⟨_,_,this.1⟩,this.2⟩
def wI (eC a:List Ob)(d:eD)(x y:Int):Prop:=
 (256<d.size/\a=eC/\x=-1/\y=11)\/
 (d.size<=256/\((∃i:Nat,findAt eC (zr d)=some i/\a=eC/\x=i/\y=0)\/(findAt eC (zr d)=none/\400<=eC.length/\a=eC/\x=-1/\y=11)\/
  (findAt eC (zr d)=none/\eC.length<400/\a=eC++[zr d]/\x=eC.length/\y=0)))
theorem wJ(h:fh F w r eC)(d:eD)(hd:d.size<=maxLen):
  gc 36 #[hh r,.string d] w fun e w'=>∃x y a,e=.returned (.tuple #[eJ x,eJ y])/\wI eC a d x y/\fh (kp F w w') w' r a/\eA F w w':=by
 unfold maxLen at hd;by_cases hs:256<d.size
 ·have b:Hid (fh F w r eC):=h
  clear h;go_enter func36,ntmps36;go_wp2;go_ret2;exact⟨_,_,eC,rfl,.inl ⟨hs,rfl,rfl,rfl⟩,b.out.below (lh _ _) (fun k hk=>.inl hk),eA.eE (lh _ _)⟩
 ·have ho:nk (fun _=>False) w (zr d):=⟨.inl rfl,by show d.size<=256;omega,rfl,by show 0<=16;omega,sH _,by show(0:Int)<=5;omega,jf _ _ _ _,fun g hg=>by cases hg⟩
  have f:=HX h (zr d) ho rfl (by show(0:Int)<=5;omega) (fun e n=>by cases n);have j:gc 78 #[hh r,.agg #[eJ 1,.string d,.slice none 0 0,eJ 0]] w fun e w'=>∃x a,e=.returned (eJ x)/\AP eC a (zr d) x/\fh (Grow F (fun _=>False) w w') w' r a/\eA F w w':=f;clear f h ho;have l:d.size<=256:=by omega
  go_enter func36,ntmps36;go_wp2_with fail;refine j.mono ?_;rintro e w' ⟨x,a,rfl,hp,hi,hk⟩;have b:Hid (fh (kp F w w') w' r a/\eA F w w'):=⟨hi.keep (fun k hk=>by rcases hk with h|h|h;exact .inl h;exact h.elim;exact .inr h) (fun _ _=>rfl),hk⟩;have m:Hid (AP eC a (zr d) x):=hp;clear j hi hk hp;by_cases hx:x<0
  ·go_wp2
   go_ret2;refine⟨_,_,a,rfl,.inr ⟨l,?_⟩,b.out⟩;rcases m.out with⟨i,h1,h2,h3⟩|⟨h1,h2,h3,c⟩|⟨h1,h2,h3,c⟩
   ·omega
   ·exact .inr (.inl ⟨h1,h2,h3,rfl,rfl⟩)
   ·omega
  ·go_wp2
   go_ret2;refine⟨_,_,a,rfl,.inr ⟨l,?_⟩,b.out⟩;rcases m.out with⟨i,h1,h2,h3⟩|⟨h1,h2,h3,c⟩|⟨h1,h2,h3,c⟩
   ·exact .inl ⟨i,h1,h2,h3,rfl⟩
   ·omega
   ·exact .inr (.inr ⟨h1,h2,h3,c,rfl⟩)
theorem HY(a:fD)(c0:Nat)(w:World):gc 107 #[.slice a 0 c0] w (Do (.slice none 0 0) w):=by
 go_enter func107,ntmps107;go_wp2
 go_loopw [3,4] (fun v i wo=>v=.slice none 0 0/\i=.int .i64 0/\wo=w) (fun _ _ _=>0)
 case atStart=>exact⟨rfl,rfl,rfl⟩
 case round=>
  obtain⟨rfl,rfl,rfl⟩:=hrel;go_wp2;go_ret;exact⟨rfl,rfl⟩
def fT (w:World)(a:fD)(m:Nat)(c:List eN):Prop:=c.length=m/\(0<m->∃b off,a=some ⟨b,off,none⟩/\b<w.heap.size/\∀j d,(flat c)[j]?=some d->w.cell? ⟨b,off+j,none⟩=some d)
theorem AQ(a:fD)(m c0:Nat)(c:List eN)(w:World)(hl:fT w a m c)(hm:m<=16)(d:∀e∈c,e.1.size<=maxLen):
  gc 107 #[.slice a m c0] w fun e w'=>∃v,e=.returned v/\w'.ownsRow w.heap.size 112 3 v m (flat (Ps c))/\ik w w':=by
 rcases Nat.eq_zero_or_pos m with rfl|hp
 ·have:c=[]:=CK hl.1
  subst this;exact(HY a c0 w).mono fun e w' ⟨f,hw⟩=>⟨_,f,by subst hw;exact jf _ _ _ _,by subst hw;exact lh _ _⟩
 ·obtain⟨b,off,rfl,g,hc⟩:=hl.2 hp
  exact Ll b off m c0 c w hl.1 hm g hc d
def lI (eC:List Ob)(e:eN):Bool:=decide (0<=e.2.2)&&decide (((eC[e.2.2.toNat]?).map (·.kind)).getD 0=e.2.1)
def Lm (v:fD×Nat)(m:Nat)(es:List eN):Ob:={ kind:=2,data:=ByteArray.empty,ea:=v.1,el:=m,ec:=v.2,eR:=es,high:=0 }
def wK (eC b:List Ob)(a:List eN)(x y:Int):Prop:=
 ((∃e∈a,eG e.1=false)/\b=eC/\x=-1/\y=1)\/
 ((∀e∈a,eG e.1=true)/\
  ((¬(a.map (·.1)).Nodup/\b=eC/\x=-1/\y=6)\/
   ((a.map (·.1)).Nodup/\16<a.length/\b=eC/\x=-1/\y=11)\/
   ((a.map (·.1)).Nodup/\a.length<=16/\(∃e∈a,lI eC e=false)/\b=eC/\x=-1/\y=13)\/
   ((a.map (·.1)).Nodup/\a.length<=16/\(∀e∈a,lI eC e=true)/\5<sk eC a/\b=eC/\x=-1/\y=11)\/
   ((a.map (·.1)).Nodup/\a.length<=16/\(∀e∈a,lI eC e=true)/\sk eC a<=5/\∃v z,AP eC b (Lm v a.length (Ps a)) z/\((z<0/\x=-1/\y=11)\/(0<=z/\x=z/\y=0)))))
theorem nl(h:w.ownsRow base e size v n xs):∃a c,v=.slice a n c:=by
 rcases h.2 with⟨rfl,rfl⟩|⟨g,cap,_,hv,_⟩
 ·exact⟨none,0,rfl⟩
 ·exact⟨_,_,hv⟩
theorem eA.after(h:eA F w1 w2)(a:ik w w1):eA F w w2:=
 ⟨h.os.trans a.os,h.tape.trans a.tape,h.output.trans a.output,wl a.size h.size,fun k hk hn=>(h.block k (lO hk a.size) hn).trans (a.block k hk)⟩
theorem sO(eC:List Ob){es fs:List eN}(h:es.Perm fs):sk eC es=sk eC fs:=by
 unfold sk;refine List.Perm.foldl_eq' h (fun x _ y _ z=>?_) 0;omega
theorem yX(h:fh F w r eC)(a:fD)(m c0:Nat)(c:List eN)(hl:fT w a m c)(aS:m*32<=140737488355328)(af:∀e∈c,e.1.size<=maxLen)
  (ag:∀e∈c,-1<=e.2.2/\e.2.2<(eC.length:Int)):
  gc 82 #[hh r,.slice a m c0] w fun e w'=>∃x y n,e=.returned (.tuple #[eJ x,eJ y])/\wK eC n c x y/\fh (kp F w w') w' r n/\eA F w w':=by
 have R:Hid (fh F w r eC):=h;have ah:Hid (∀e∈c,e.1.size<=maxLen):=af;have ai:Hid (∀e∈c,-1<=e.2.2/\e.2.2<(eC.length:Int)):=ag;have l:Hid (c.length=m):=hl.1;have N:Hid (fT w a m c):=hl;have s:∀q,Hid (fh (kp F w (w.drewN q)) (w.drewN q) r eC/\eA F w (w.drewN q)):=fun q=>⟨R.out.below (iQ (lh _ _) q) (fun k hk=>.inl hk),eA.eE (iQ (lh _ _) q)⟩;clear h af ag hl;go_enter func82,ntmps82;go_wp2
 go_loopw [6] (fun i wr=>∃k:Nat,k<=m/\i=.int .i64 k/\(∃q,wr=w.drewN q)/\Hid (∀j (hj:j<c.length),j<k->eG c[j].1=true)) (fun i _=>m-(intOf i).toNat)
 case atStart=>exact⟨0,tk _,rfl,⟨0,rfl⟩,fun j hj h=>by omega⟩
 case round=>
  obtain⟨k,hk,rfl,⟨q,rfl⟩,S⟩:=hrel;by_cases aG:k<m
  ·have T:k<c.length:=by rw[l.out];exact aG
   obtain⟨b,off,rfl,aj,hc⟩:=N.out.2 (by omega);obtain⟨d0,_,_⟩:=ld hc T;have ak:Hid (∀j D,(flat c)[j]?=some D->w.cell? (eI b (off+j))=some D):=hc;clear hc;have aH:(w.drewN q).cell? (eI b (off+k*3))=some (.string c[k].1):=d0;have hv:=fun W=>DA c[k].1 W (ah.out c[k] (kj T));cases u:eG c[k].1 with
   |false=>
    have U:Hid (eG c[k].1=false):=u;rw[u]at hv;clear u;go_wp2_with(go_at_call 150;refine(hv _).mono ?_;rintro e w' ⟨rfl,V,rfl⟩);go_ret2;exact⟨_,_,eC,rfl,.inl ⟨⟨c[k],kj T,U.out⟩,rfl,rfl,rfl⟩,(s (q+V)).out⟩
   |true=>
    have U:Hid (eG c[k].1=true):=u;rw[u]at hv;clear u;go_wp2_with(go_at_call 150;refine(hv _).mono ?_;rintro e w' ⟨rfl,V,rfl⟩);go_roundw
    case rel=>
     refine⟨k+1,by omega,by go_num,⟨q+V,rfl⟩,?_⟩;intro j hj aI;by_cases e:j=k
     ·subst e;exact U.out
     ·exact S.out j hj (by omega)
    case measure=>simp[intOf];omega
  ·have o:Hid (∀x∈c,eG x.1=true):=by
    intro x hx;obtain⟨j,hj,rfl⟩:=pg hx;exact S.out j hj (by rw[l.out]at hj;omega)
   clear S;go_wp2
   go_loopw [8] (fun i wr=>∃k:Nat,k<=m/\i=.int .i64 k/\(∃q,wr=w.drewN q)/\Hid (∀i j (hi:i<c.length) (hj:j<c.length),i<k->j<i->c[i].1≠c[j].1)) (fun i _=>m-(intOf i).toNat)
   case atStart=>exact⟨0,tk _,rfl,⟨q,rfl⟩,fun i j hi hj h1 h2=>by omega⟩
   case round=>
    obtain⟨d,hk2,rfl,⟨X,rfl⟩,Y⟩:=hrel;by_cases aJ:d<m
    ·have al:d<c.length:=by rw[l.out];exact aJ
     obtain⟨b,off,rfl,aj,hc⟩:=N.out.2 (by omega);obtain⟨d0,_,_⟩:=ld hc al;have ak:Hid (∀j D,(flat c)[j]?=some D->w.cell? (eI b (off+j))=some D):=hc;clear hc;have aT:(d:Int)<(m:Int):=by omega
     go_wp2
     go_loopw [9] (fun i wr=>∃f:Nat,f<=d/\i=.int .i64 f/\(∃q,wr=w.drewN q)/\Hid (∀j (hj:j<c.length),j<f->c[d].1≠c[j].1)) (fun i _=>d-(intOf i).toNat)
     case atStart=>exact⟨0,tk _,rfl,⟨X,rfl⟩,fun j hj h=>by omega⟩
     case round=>
      obtain⟨f,aU,rfl,⟨O,rfl⟩,am⟩:=hrel;by_cases aK:f<d
      ·have an:f<c.length:=by omega
       obtain⟨aL,_,_⟩:=ld ak.out an;have aH:(w.drewN O).cell? (eI b (off+d*3))=some (.string c[d].1):=d0;have aV:(w.drewN O).cell? (eI b (off+f*3))=some (.string c[f].1):=aL;have aW:(f:Int)<(m:Int):=by omega
       cases ao:c[d].1.toList==c[f].1.toList with
       |true=>
        have Z:Hid ((c[d].1.toList==c[f].1.toList)=true):=ao;go_wp2
        go_quiet (fail)
        go_wp2;go_ret2;refine⟨_,_,eC,rfl,.inr ⟨o.out,.inl ⟨?_,rfl,rfl,rfl⟩⟩,by rw[Fb];exact(s _).out⟩;intro qa;have hne:=SJ.1 qa f d (by simpa using an) (by simpa using al) aK;simp only[Fa]at hne;exact hne (sJ (by simpa using Z.out)).symm
       |false=>
        have Z:Hid ((c[d].1.toList==c[f].1.toList)=false):=ao;go_wp2
        go_quiet (fail)
        go_wp2;go_roundw
        case rel=>
         refine⟨f+1,by omega,by go_num,⟨O+nq,rfl⟩,?_⟩;intro j hj aI;by_cases e:j=f
         ·subst e;intro h;have:=Z.out;rw[h]at this;simp at this
         ·exact am.out j hj (by omega)
        case measure=>simp[intOf];omega
      ·go_wp2
       go_roundw
       case rel=>
        refine⟨d+1,by omega,by go_num,⟨O,rfl⟩,?_⟩;intro i j hi hj h1 h2;by_cases e:i=d
        ·subst e;exact am.out j hj (by omega)
        ·exact Y.out i j hi hj (by omega) h2
       case measure=>simp[intOf];omega
    ·have A:Hid ((c.map (·.1)).Nodup):=by
      refine SJ.2 fun i j hi hj aM=>?_;simp only[Fa];simp only[nD]at hi hj;exact(Y.out j i hj hi (by rw[l.out]at hj;omega) aM).symm
     clear Y;by_cases iE:16<m
     ·go_wp2
      go_ret2;exact⟨_,_,eC,rfl,.inr ⟨o.out,.inr (.inl ⟨A.out,by rw[l.out];exact iE,rfl,rfl,rfl⟩)⟩,(s X).out⟩
     ·have E:m<=16:=by omega
      go_wp2
      go_loopw [10,11] (fun t i wr=>∃k:Nat,∃G:Bool,k<=m/\i=.int .i64 k/\t=.bool G/\(∃q,wr=w.drewN q)/\Hid (G=decide (5<sk eC (c.take k)))/\Hid (∀j (hj:j<c.length),j<k->lI eC c[j]=true)) (fun _ i _=>m-(intOf i).toNat)
      case atStart=>exact⟨0,false,tk _,rfl,rfl,⟨X,rfl⟩,rfl,fun j hj h=>by omega⟩
      case round=>
       obtain⟨k4,G,aX,rfl,rfl,⟨B,rfl⟩,H,I⟩:=hrel;by_cases aN:k4<m
       ·have J:k4<c.length:=by rw[l.out];exact aN
        obtain⟨b,off,rfl,aj,hc⟩:=N.out.2 (by omega);obtain⟨_,d1,d2⟩:=ld hc J;have aO:(w.drewN B).cell? (eI b (off+k4*3+1))=some (.int .i64 c[k4].2.1):=d1;have aY:(k4:Int)<(m:Int):=by omega
        clear hc;obtain⟨ap,aq⟩:=ai.out _ (kj J);by_cases ar:c[k4].2.2<0
        ·have au:c[k4].2.2=-1:=by omega
         rw[au]at d2;have av:(w.drewN B).cell? (eI b (off+k4*3+2))=some (eJ (-1)):=d2;have p:Hid (lI eC c[k4]=false):=by
          show lI eC c[k4]=false;unfold lI;rw[rk (by omega)];rfl
         clear au ar ap aq;go_wp2
         go_quiet (fail)
         go_wp2;go_ret2;exact⟨_,_,eC,rfl,.inr ⟨o.out,.inr (.inr (.inl ⟨A.out,by rw[l.out];exact E,⟨c[k4],kj J,p.out⟩,rfl,rfl,rfl⟩))⟩,by rw[Fb];exact(s _).out⟩
        ·obtain⟨j,hj⟩:∃j:Nat,c[k4].2.2=(j:Int):=⟨c[k4].2.2.toNat,by omega⟩
         have C:j<eC.length:=(by omega);have aZ:(j:Int)<(eC.length:Int):=by omega
         rw[hj]at d2;have av:(w.drewN B).cell? (eI b (off+k4*3+2))=some (eJ (j:Int)):=d2;have bb:decide ((j:Int)<0)=false:=by simp
         obtain⟨bc,cap,K⟩:=R.out;obtain⟨g,rfl,bd,c0,_,_,c3⟩:=ko K.row rfl C;have be:=fun q=>(show(w.drewN q).cell? (eI g (j*4))=some (.int .i64 eC[j].kind)from c0);have bf:=fun q=>(show(w.drewN q).cell? (eI g (j*4+3))=some (.int .i64 eC[j].high)from c3);have bg:=fun q=>(show(w.drewN q).cell? (eI r 0)=some (.slice (some (eI g 0)) eC.length cap)from K.c0);have bh:=fun q=>(show(w.drewN q).cell? (eI b (off+k4*3+2))=some (eJ (j:Int))from d2);obtain⟨bi,bj⟩:0<=eC[j].high/\eC[j].high<=5:=⟨(K.zV _ (kj C)).HT,(K.zV _ (kj C)).HV⟩;have bk:=fun q=>(show(w.drewN q).cell? (eI b (off+k4*3+1))=some (.int .i64 c[k4].2.1)from d1);have aa:Hid (c[k4].2.2=(j:Int)):=hj;clear hj ar ap aq K aO av;cases oV:(eC[j].kind != c[k4].2.1) with
         |true=>
          have p:Hid (lI eC c[k4]=false):=by
           show lI eC c[k4]=false;unfold lI;rw[aa.out,ow,jy C]
           have:¬eC[j].kind=c[k4].2.1:=by simpa using oV
           simp[this]
          go_wp2
          go_quiet (fail)
          go_wp2;go_ret2;exact⟨_,_,eC,rfl,.inr ⟨o.out,.inr (.inr (.inl ⟨A.out,by rw[l.out];exact E,⟨c[k4],kj J,p.out⟩,rfl,rfl,rfl⟩))⟩,by rw[Fb];exact(s _).out⟩
         |false=>
          have p:Hid (lI eC c[k4]=true):=by
           show lI eC c[k4]=true;unfold lI;rw[aa.out,ow,jy C]
           have:eC[j].kind=c[k4].2.1:=by simpa using oV
           simp[this]
          have ab:Hid (sk eC (c.take (k4+1))=max (sk eC (c.take k4)) (1+eC[j].high)):=by
           show _=_;rw[vZ J,yV];unfold yU;rw[aa.out,ow,jy C];rfl
          cases G with
          |true=>
           go_wp2
           go_quiet (fail)
           go_wp2
           go_quiet (fail)
           go_wp2;go_roundw
           case rel=>
            refine⟨k4+1,true,by omega,by go_num,rfl,⟨_,rfl⟩,?_,?_⟩
            ·have:=wm H.out.symm
             show true=_;rw[ab.out,mz (by omega)]
            ·intro i hi aw
             by_cases e:i=k4
             ·subst e;exact p.out
             ·exact I.out i hi (by omega)
           case measure=>simp[intOf];omega
          |false=>
           by_cases h6:5<1+eC[j].high
           ·go_wp2
            go_quiet (fail)
            go_wp2
            go_quiet (fail)
            go_wp2;go_roundw
            case rel=>
             refine⟨k4+1,true,by omega,by go_num,by first|rfl|simp[h6],⟨_,rfl⟩,?_,?_⟩
             ·show true=_
              rw[ab.out,mz (by omega)]
             ·intro i hi aw
              by_cases e:i=k4
              ·subst e;exact p.out
              ·exact I.out i hi (by omega)
            case measure=>simp[intOf];omega
           ·go_wp2
            go_quiet (fail)
            go_wp2
            go_quiet (fail)
            go_wp2;go_roundw
            case rel=>
             refine⟨k4+1,false,by omega,by go_num,by first|rfl|simp[h6],⟨_,rfl⟩,?_,?_⟩
             ·have:=Wz H.out.symm
              show false=_;rw[ab.out,rk (by omega)]
             ·intro i hi aw
              by_cases e:i=k4
              ·subst e;exact p.out
              ·exact I.out i hi (by omega)
            case measure=>simp[intOf];omega
       ·have P:Hid (∀x∈c,lI eC x=true):=by
         intro x hx;obtain⟨j,hj,rfl⟩:=pg hx;exact I.out j hj (by rw[l.out]at hj;omega)
        have aP:Hid (c.take k4=c):=lV (by rw[l.out];omega);rw[aP.out]at H;have ac:Hid (c.length<=16):=by rw[l.out];exact E
        clear I;cases G with
        |true=>
         go_wp2;go_ret2;exact⟨_,_,eC,rfl,.inr ⟨o.out,.inr (.inr (.inr (.inl ⟨A.out,ac.out,P.out,wm H.out.symm,rfl,rfl,rfl⟩)))⟩,(s B).out⟩
        |false=>
         have ad:Hid (sk eC c<=5):=by have:=Wz H.out.symm;exact Int.not_lt.1 this
         have ax:=AQ a m c0 c (w.drewN B) N.out E ah.out;go_wp2_with fail;refine ax.mono ?_;rintro e w1 ⟨v,rfl,Q,ay⟩;have ae:ik w w1:=(iQ (lh _ _) B).trans ay;obtain⟨L,M,hv⟩:=nl Q;subst hv;have ho:nk (fun k=>w.heap.size<=k/\k<w1.heap.size) w1 (Lm (L,M) m (Ps c)):=
          ⟨.inr rfl,by show 0<=256;omega,by show(Ps c).length=m;rw[(jk c).length_eq,l.out],E,sH _,by show(0:Int)<=5;omega,pj Q (tk _),fun g hg=>Q.lt g hg⟩
         have az:fh F w1 r eC:=R.out.below ae (fun _ h=>h);have aA:=HX az (Lm (L,M) m (Ps c)) ho rfl (by show sk eC (Ps c)<=5;rw[sO eC (jk c)];exact ad.out) (fun e aQ=>by
          have aB:e∈c:=rq aQ;have h1:=P.out e aB;have h2:=ai.out e aB;unfold lI at h1;simp only[xP,uP]at h1;exact⟨h1.1,h2.2⟩)
         have aC:gc 78 #[hh r,.agg #[eJ 2,.string ByteArray.empty,.slice L m M,eJ 0]] w1 fun e w'=>∃x n,e=.returned (eJ x)/\AP eC n (Lm (L,M) m (Ps c)) x/\fh (Grow F (fun k=>w.heap.size<=k/\k<w1.heap.size) w1 w') w' r n/\eA F w1 w':=aA;clear ax aA Q ho az;go_wp2_with fail;refine aC.mono ?_;rintro e w2 ⟨z,n,rfl,hp,aD,hk2⟩;have aE:Hid (fh (kp F w w2) w2 r n/\eA F w w2):=⟨aD.keep (fun k hk=>by
          rcases hk with h|h|h
          ·exact .inl h
          ·exact .inr ⟨h.1,lO h.2 hk2.size⟩
          ·exact .inr ⟨wl ae.size h.1,h.2⟩) (fun _ _=>rfl),hk2.after ae⟩
         have aF:Hid (AP eC n (Lm (L,M) c.length (Ps c)) z):=by rw[l.out];exact hp
         clear aC aD hk2 hp ay;by_cases aR:z<0
         ·go_wp2
          go_ret2;exact⟨_,_,n,rfl,.inr ⟨o.out,.inr (.inr (.inr (.inr ⟨A.out,ac.out,P.out,ad.out,_,z,aF.out,.inl ⟨aR,rfl,rfl⟩⟩)))⟩,aE.out⟩
         ·go_wp2
          go_ret2;exact⟨_,_,n,rfl,.inr ⟨o.out,.inr (.inr (.inr (.inr ⟨A.out,ac.out,P.out,ad.out,_,z,aF.out,.inr ⟨by omega,rfl,rfl⟩⟩)))⟩,aE.out⟩
def encI (xs:List Int):fQ:=xs.map (Value.int .i64)
def HZ (xs:List Bool):fQ:=xs.map Value.bool
structure fG (F:Nat->Prop)(w:World)(W s r:Nat)(ia ka pa:fD)(ic kc pc:Nat)(ids:List Int)(known:List Bool)(paths:List Int)(c5 c6 c7 c8 c9 c10 c11:Value):Prop where
 fw:F W
 hW:w.heap[W]?=some (.cells #[.pointer (some ⟨s,0,none⟩),.pointer (some ⟨r,0,none⟩),.slice ia ids.length ic,.slice ka known.length kc,.slice pa paths.length pc,c5,c6,c7,c8,c9,c10,c11] 71 (0,0))
 lW:w.ownsRow 0 29 1 (.slice ia ids.length ic) ids.length (encI ids)
 pz:w.ownsRow 0 4 1 (.slice ka known.length kc) known.length (HZ known)
 qc:w.ownsRow 0 3 1 (.slice pa paths.length pc) paths.length (encI paths)
 fi:∀g,(Value.slice ia ids.length ic).ownBlock=some g->F g
 fk:∀g,(Value.slice ka known.length kc).ownBlock=some g->F g
 fp:∀g,(Value.slice pa paths.length pc).ownBlock=some g->F g
section
variable {F:Nat->Prop}{w:World}{W s r:Nat}{ia ka pa:fD}{ic kc pc:Nat}{ids:List Int}{known:List Bool}{paths:List Int}{c5 c6 c7 c8 c9 c10 c11:Value}
theorem fG.keep(h:fG F w W s r ia ka pa ic kc pc ids known paths c5 c6 c7 c8 c9 c10 c11)(hF:∀k,F k->F' k)(hk:∀k,F k->w'.heap[k]?=w.heap[k]?):fG F' w' W s r ia ka pa ic kc pc ids known paths c5 c6 c7 c8 c9 c10 c11:=
 ⟨hF _ h.fw,(hk W h.fw).trans h.hW,eQ h.lW (fun g hg=>hk g (h.fi g hg)),eQ h.pz (fun g hg=>hk g (h.fk g hg)),eQ h.qc (fun g hg=>hk g (h.fp g hg)),fun g hg=>hF g (h.fi g hg),fun g hg=>hF g (h.fk g hg),fun g hg=>hF g (h.fp g hg)⟩
theorem fG.lt(h:fG F w W s r ia ka pa ic kc pc ids known paths c5 c6 c7 c8 c9 c10 c11):W<w.heap.size:=(nX.1 h.hW).1
theorem fG.below(h:fG F w W s r ia ka pa ic kc pc ids known paths c5 c6 c7 c8 c9 c10 c11)(a:ik w w'):fG F w' W s r ia ka pa ic kc pc ids known paths c5 c6 c7 c8 c9 c10 c11:=
 ⟨h.fw,(a.block W h.lt).trans h.hW,eQ h.lW (fun g hg=>a.block g (eK h.lW hg)),eQ h.pz (fun g hg=>a.block g (eK h.pz hg)),eQ h.qc (fun g hg=>a.block g (eK h.qc hg)),h.fi,h.fk,h.fp⟩
theorem fG.c0(h:fG F w W s r ia ka pa ic kc pc ids known paths c5 c6 c7 c8 c9 c10 c11):w.cell? (eI W 0)=some (hh s):=by simp[World.cell?,h.hW]
theorem fG.c1(h:fG F w W s r ia ka pa ic kc pc ids known paths c5 c6 c7 c8 c9 c10 c11):w.cell? (eI W 1)=some (hh r):=by simp[World.cell?,h.hW]
theorem fG.c2(h:fG F w W s r ia ka pa ic kc pc ids known paths c5 c6 c7 c8 c9 c10 c11):w.cell? (eI W 2)=some (.slice ia ids.length ic):=by simp[World.cell?,h.hW]
theorem fG.c3(h:fG F w W s r ia ka pa ic kc pc ids known paths c5 c6 c7 c8 c9 c10 c11):w.cell? (eI W 3)=some (.slice ka known.length kc):=by simp[World.cell?,h.hW]
theorem fG.c4(h:fG F w W s r ia ka pa ic kc pc ids known paths c5 c6 c7 c8 c9 c10 c11):w.cell? (eI W 4)=some (.slice pa paths.length pc):=by simp[World.cell?,h.hW]
theorem fG.fz(h:fG F w W s r ia ka pa ic kc pc ids known paths c5 c6 c7 c8 c9 c10 c11)(i:Nat):w.frozen? (eI W i)=false:=by simp[World.frozen?,h.hW]
theorem row_one(h:w.ownsRow 0 t 1 (.slice a n c) n xs)(hi:xs[i]?=some v):∃g,a=some (eI g 0)/\g<w.heap.size/\w.cell? (eI g i)=some v/\i<n:=by
 have mG:i<n:=by have:=(wj.1 hi).1;have:=h.1;omega
 obtain⟨g,cap,hv⟩:=fj h (by omega);have b:=(nH hv).1;subst b;refine⟨g,rfl,eK h rfl,?_,mG⟩
 have:=h.cells (g:=g) rfl i v hi
 rw[oz,iP]at this;exact this
def FK (ids:List Int)(n:Int):Int:=if 1<=n/\n<=ids.length then ids.getD (n-1).toNat 0 else n
theorem Zs(h:fG F w W s r ia ka pa ic kc pc ids known paths c5 c6 c7 c8 c9 c10 c11)(n:Int)(d:ids.length<=400):
  gc 39 #[hh W,eJ n] w (Do (eJ (FK ids n)) w):=by
 have e:=h.c2;have f:=h.lt;by_cases h1:1<=n
 ·by_cases h2:n<=(ids.length:Int)
  ·obtain⟨j,hj⟩:∃j:Nat,n=(j:Int)+1:=⟨(n-1).toNat,by omega⟩
   subst hj;have b:j<ids.length:=by omega
   obtain⟨g,rfl,k,c,_⟩:=row_one h.lW (i:=j) (v:=.int .i64 ids[j]) (by simp[encI,jy b]);have a:Hid (FK ids ((j:Int)+1)=ids[j]):=by
    show _=_;unfold FK;rw[ie ⟨h1,h2⟩,show((j:Int)+1-1).toNat=j by omega];simp[b]
   have a1:(j:Int)+1-1=j:=by omega
   have a2:(j:Int)<ids.length:=by omega
   clear h;go_enter func39,ntmps39;go_wp2;go_ret;exact⟨by rw[a.out];rfl,rfl⟩
  ·have a:Hid (FK ids n=n):=by show _=_;unfold FK;rw[fY (fun h=>h2 h.2)]
   have l:decide (n<=(ids.length:Int))=false:=rk h2;clear h;go_enter func39,ntmps39;go_wp2;go_ret;exact⟨by rw[a.out];rfl,rfl⟩
 ·have a:Hid (FK ids n=n):=by show _=_;unfold FK;rw[fY (fun h=>h1 h.1)]
  have m:decide (1<=n)=false:=rk h1;clear h;go_enter func39,ntmps39;go_wp2;go_ret;exact⟨by rw[a.out];rfl,rfl⟩
def placeOf (ids:List Int)(id:Int):Option Nat:=if 0<id then ids.findIdx? (fun x=>x==id)else none
theorem uh(h:fG F w W s r ia ka pa ic kc pc ids known paths c5 c6 c7 c8 c9 c10 c11)(id:Int)(n:ids.length<=400):
  gc 41 #[hh W,eJ id] w (Do (eJ (FF (placeOf ids id))) w):=by
 have o:=h.c2;have p:=h.lt;have l:Hid (w.ownsRow 0 29 1 (.slice ia ids.length ic) ids.length (encI ids)):=h.lW;clear h;go_enter func41,ntmps41;go_wp2
 go_loopw [5] (fun i wr=>∃k:Nat,k<=ids.length/\i=.int .i64 k/\wr=w/\Hid (∀j (hj:j<ids.length),j<k->0<id->(ids[j]==id)=false)) (fun i _=>ids.length-(intOf i).toNat)
 case atStart=>exact⟨0,tk _,rfl,rfl,fun j hj h=>by omega⟩
 case round=>
  obtain⟨k,hk,rfl,rfl,a⟩:=hrel;by_cases d:k<ids.length
  ·obtain⟨g,rfl,q,c,_⟩:=row_one l.out (i:=k) (v:=.int .i64 ids[k]) (by simp[encI,jy d])
   cases f:(ids[k]==id) with
   |true=>
    have b:Hid ((ids[k]==id)=true):=f;by_cases hp:0<id
    ·go_wp2
     go_ret;refine⟨?_,rfl⟩;have e:placeOf ids id=some k:=by
      unfold placeOf;rw[ie hp];exact zO.2 ⟨d,b.out,fun j hj=>by have:=a.out j (by omega) hj hp;simp[this]⟩
     rw[e];rfl
    ·have t:decide (0<id)=false:=rk hp
     go_wp2;go_roundw
     case rel=>exact⟨k+1,by omega,by go_num,by trivial,fun j hj m h0=>absurd h0 hp⟩
     case measure=>simp[intOf];omega
   |false=>
    have b:Hid ((ids[k]==id)=false):=f;go_wp2;go_roundw
    case rel=>
     refine⟨k+1,by omega,by go_num,by trivial,fun j hj m h0=>?_⟩;by_cases e:j=k
     ·subst e;exact b.out
     ·exact a.out j hj (by omega) h0
    case measure=>simp[intOf];omega
  ·go_wp2
   go_ret;refine⟨?_,rfl⟩;have e:placeOf ids id=none:=by
    unfold placeOf;split
    ·next hp=>
     refine WL.2 fun x hx=>?_;obtain⟨j,hj,rfl⟩:=pg hx;exact a.out j hj (by omega) hp
    ·rfl
   rw[e];rfl
theorem DC(at_:Int)(hn:at_<0):gc 42 #[hh W,eJ at_] w (Do (eJ 0) w):=by
 go_enter func42,ntmps42;go_wp2;go_ret;exact⟨rfl,rfl⟩
theorem TP(h:fG F w W s r ia ka pa ic kc pc ids known paths c5 c6 c7 c8 c9 c10 c11)(hr:fh G w r eC)(j:Nat)(hj:j<eC.length):
  gc 42 #[hh W,eJ (j:Int)] w (Do (.int .i64 eC[j].kind) w):=by
 have c:=h.c1;obtain⟨a,cap,b⟩:=hr;have d:=b.c0;have hm:=b.many;obtain⟨g,rfl,e,c0,_⟩:=ko b.row rfl hj;clear h b;go_enter func42,ntmps42;go_wp2;go_ret;exact⟨rfl,rfl⟩
end
theorem jp{P:Program}{ops:Array Oper}{rest:List Oper}{o:Oper}{a:Act}{g:Exit->Act->World->Prop}(k:o.guard=none)(s x:Operand)(t:gi)
  (ho:o.op=.call { callee:=.builtin .append,args:=#[s,x],argTypes:=#[t,t] })
  (base:Nat)(e:gi)(i:TypeInfo)(z:Value)(size bytes:Nat)(ht:P.underlying t=some (.slice e))(hi:P.info? e=some i)(l:i.zero=some z)
  (p:i.size=size)(q:i.bytes=bytes)(r:z.cells.size=size)(u:0<size)
  (v:Value)(n:Nat)(xs:fQ)(hs:a.eval s=v)(y:w.ownsRow base e size v n xs)
  (f:Addr)(m c:Nat)(news:fQ)(hx:a.eval x=.slice (some f) m c)(hl:news.length=m*size)(A:∀j d,news[j]?=some d->w.cell? (f.add j)=some d)(h1:∀d∈news,d.oneCell'=true)
  (B:n+m<=maxLen)(C:(n+m)*bytes<=140737488355328)(D:base<=w.heap.size)
  (h:∀b w',w'.ownsRow base e size b (n+m) (xs++news)->w.grownBy w' v.ownBlock->(b.ownBlock=v.ownBlock\/b.ownBlock=some w.heap.size)->wpList P ops g rest (a.put o.dst b) w'):wpList P ops g (o::rest) a w:=by
 obtain⟨b,w',E,F,G,_,H⟩:=run_append_own_at (P:=P) w base t o.type e i z size bytes ht hi l p q r u v n xs y f m c news hl A h1 B C D;refine Pr k fun _ I=>?_;unfold Oper.wp;simp[execOp,ho,resolve,invoke,builtin,hs,hx,E,Result.andThen];exact I _ _ (h b w' F G H)
theorem ma{w c w2:World}{W i:Nat}{size n m:Nat}(hW:w.heap[W]?=some (.cells cs T (0,0)))(row:w.ownsRow 0 t size (.slice a n cap) n xs)(j:T≠t)
  (kb:∀q,q<w.heap.size->c.heap[q]?=w.heap[q]?)(PT:w.heap.size<=c.heap.size)(hq:c.os=w.os/\c.tape=w.tape/\c.output=w.output)(l:w2.ownsRow 0 t size (.slice (some (eI g 0)) (n+m) cap') (n+m) (xs++news))
  (hg:c.grownBy w2 (Value.slice a n cap).ownBlock)(d:(Value.slice (some (eI g 0)) (n+m) cap').ownBlock=(Value.slice a n cap).ownBlock\/(Value.slice (some (eI g 0)) (n+m) cap').ownBlock=some b)(y:w.heap.size<=b):
  (w2.setCell (eI W i) (.slice (some (eI g 0)) (n+m) cap')).heap[W]?=some (.cells (cs.setIfInBounds i (.slice (some (eI g 0)) (n+m) cap')) T (0,0))/\(w2.setCell (eI W i) (.slice (some (eI g 0)) (n+m) cap')).ownsRow 0 t size (.slice (some (eI g 0)) (n+m) cap') (n+m) (xs++news)/\
    ((some g:Option Nat)=(Value.slice a n cap).ownBlock\/w.heap.size<=g)/\eA (fun k=>k=W\/some k=(Value.slice a n cap).ownBlock) w (w2.setCell (eI W i) (.slice (some (eI g 0)) (n+m) cap')):=by
 have o:W<w.heap.size:=(nX.1 hW).1;have iD:some W≠(Value.slice a n cap).ownBlock:=fX row hW j;have f:∀k,k<w.heap.size->some k≠(Value.slice a n cap).ownBlock->w2.heap[k]?=w.heap[k]?:=by
  intro k hk hne;rw[hg.block k (by omega) hne,kb k hk]
 have p:w2.heap[W]?=some (.cells cs T (0,0)):=by rw[f W o iD,hW]
 have s:g≠W:=by
  rintro rfl;rcases d with h1|h1
  ·exact iD h1
  ·simp[Value.ownBlock]at h1;omega
 have hs:=hg.size;refine⟨?_,?_,?_,⟨hg.os.trans hq.1,hg.tape.trans hq.2.1,hg.output.trans hq.2.2,by simp;omega,?_⟩⟩
 ·simp[World.setCell,Am,p]
 ·obtain⟨h1,h2⟩:=l
  refine⟨h1,?_⟩;rcases h2 with⟨h,_⟩|⟨z,A,u,hv,v,x,r⟩
  ·cases h
  ·cases hv
   exact Or.inr ⟨g,cap',u,rfl,v,by rw[jQ _ _ _ _ s];exact x,r⟩
 ·rcases d with h|h
  ·exact Or.inl h
  ·simp[Value.ownBlock]at h;exact Or.inr (by omega)
 ·intro k hk hne
  rw[jQ _ _ _ _ (fun e=>hne (.inl e)),f k hk (fun e=>hne (.inr e))]
theorem px{b c:Nat}{t t':gi}{z d n e:Nat}{v a:Value}{xs f:fQ}(h:w.ownsRow b t z v n xs)(h':w.ownsRow c t' d a e f)(ht:t≠t')(hg:v.ownBlock=some g):some g≠a.ownBlock:=by
 obtain⟨i,hc⟩:=ww h hg;exact fX h' hc ht
theorem iW{W:Nat}(h:w.ownsRow b t z v n xs)(hk:eA (fun k=>k=W\/some k=own) w w')(hW:w.heap[W]?=some (.cells cs T (0,0)))(a:T≠t)(ho:∀g,v.ownBlock=some g->some g≠own):w'.ownsRow b t z v n xs:=by
 refine eQ h fun g hg=>hk.block g (eK h hg) ?_;rintro(rfl|e)
 ·exact fX h hW a hg.symm
 ·exact ho g hg e
section
variable {F:Nat->Prop}{w:World}{W s r:Nat}{ia ka pa:fD}{ic kc pc:Nat}{ids:List Int}{known:List Bool}{paths:List Int}{c5 c6 c7 c8 c9 c10 c11:Value}
theorem qp{W:Nat}(h:eA (fun k=>k=W\/some k=own) w w')(h1:F W)(h2:∀g,own=some g->F g):eA F w w':=
 ⟨h.os,h.tape,h.output,h.size,fun k hk hn=>h.block k hk (by rintro(rfl|e);exact hn h1;exact hn (h2 k e.symm))⟩
theorem wL(a:w'.ownsRow 0 t z (.slice (some (eI g 0)) n c) n xs)(b:(some g:Option Nat)=own\/w.heap.size<=g)(h2:∀g,own=some g->F g):∀k,(Value.slice (some (eI g 0)) n c).ownBlock=some k->kp F w w' k:=by
 intro k hk;simp only[Value.ownBlock,mZ]at hk;subst hk;rcases b with e|e
 ·exact .inl (h2 _ e.symm)
 ·exact .inr ⟨e,eK a rfl⟩
theorem fG.YQ(h:fG F w W s r ia ka pa ic kc pc ids known paths c5 c6 c7 c8 c9 c10 c11)
  (p:w'.heap[W]?=some (.cells (Array.setIfInBounds #[hh s,hh r,.slice ia ids.length ic,.slice ka known.length kc,.slice pa paths.length pc,c5,c6,c7,c8,c9,c10,c11] 2 (.slice (some (eI g 0)) (ids.length+1) cap')) 71 (0,0))/\w'.ownsRow 0 29 1 (.slice (some (eI g 0)) (ids.length+1) cap') (ids.length+1) (encI ids++[eJ x])/\
    ((some g:Option Nat)=(Value.slice ia ids.length ic).ownBlock\/w.heap.size<=g)/\eA (fun k=>k=W\/some k=(Value.slice ia ids.length ic).ownBlock) w w'):
  fG (kp F w w') w' W s r (some (eI g 0)) ka pa cap' kc pc (ids++[x]) known paths c5 c6 c7 c8 c9 c10 c11/\eA F w w':=by
 obtain⟨c,b,d,a⟩:=p;have hl:(ids++[x]).length=ids.length+1:=by simp
 refine⟨⟨.inl h.fw,?_,?_,iW h.pz a h.hW (by decide) (fun g hg=>px h.pz h.lW (by decide) hg),iW h.qc a h.hW (by decide) (fun g hg=>px h.qc h.lW (by decide) hg),?_,fun g hg=>.inl (h.fk g hg),fun g hg=>.inl (h.fp g hg)⟩,qp a h.fw h.fi⟩
 ·rw[hl];exact c
 ·rw[hl];simpa [encI]using b
 ·rw[hl];exact wL b d h.fi
theorem fG.YR(h:fG F w W s r ia ka pa ic kc pc ids known paths c5 c6 c7 c8 c9 c10 c11){x:Bool}
  (p:w'.heap[W]?=some (.cells (Array.setIfInBounds #[hh s,hh r,.slice ia ids.length ic,.slice ka known.length kc,.slice pa paths.length pc,c5,c6,c7,c8,c9,c10,c11] 3 (.slice (some (eI g 0)) (known.length+1) cap')) 71 (0,0))/\w'.ownsRow 0 4 1 (.slice (some (eI g 0)) (known.length+1) cap') (known.length+1) (HZ known++[.bool x])/\
    ((some g:Option Nat)=(Value.slice ka known.length kc).ownBlock\/w.heap.size<=g)/\eA (fun k=>k=W\/some k=(Value.slice ka known.length kc).ownBlock) w w'):
  fG (kp F w w') w' W s r ia (some (eI g 0)) pa ic cap' pc ids (known++[x]) paths c5 c6 c7 c8 c9 c10 c11/\eA F w w':=by
 obtain⟨c,b,d,a⟩:=p;have hl:(known++[x]).length=known.length+1:=by simp
 refine⟨⟨.inl h.fw,?_,iW h.lW a h.hW (by decide) (fun g hg=>px h.lW h.pz (by decide) hg),?_,iW h.qc a h.hW (by decide) (fun g hg=>px h.qc h.pz (by decide) hg),fun g hg=>.inl (h.fi g hg),?_,fun g hg=>.inl (h.fp g hg)⟩,qp a h.fw h.fk⟩
 ·rw[hl];exact c
 ·rw[hl];simpa [HZ]using b
 ·rw[hl];exact wL b d h.fk
theorem fG.YS(h:fG F w W s r ia ka pa ic kc pc ids known paths c5 c6 c7 c8 c9 c10 c11)
  (p:w'.heap[W]?=some (.cells (Array.setIfInBounds #[hh s,hh r,.slice ia ids.length ic,.slice ka known.length kc,.slice pa paths.length pc,c5,c6,c7,c8,c9,c10,c11] 4 (.slice (some (eI g 0)) (paths.length+1) cap')) 71 (0,0))/\w'.ownsRow 0 3 1 (.slice (some (eI g 0)) (paths.length+1) cap') (paths.length+1) (encI paths++[eJ x])/\
    ((some g:Option Nat)=(Value.slice pa paths.length pc).ownBlock\/w.heap.size<=g)/\eA (fun k=>k=W\/some k=(Value.slice pa paths.length pc).ownBlock) w w'):
  fG (kp F w w') w' W s r ia ka (some (eI g 0)) ic kc cap' ids known (paths++[x]) c5 c6 c7 c8 c9 c10 c11/\eA F w w':=by
 obtain⟨c,b,d,a⟩:=p;have hl:(paths++[x]).length=paths.length+1:=by simp
 refine⟨⟨.inl h.fw,?_,iW h.lW a h.hW (by decide) (fun g hg=>px h.lW h.qc (by decide) hg),iW h.pz a h.hW (by decide) (fun g hg=>px h.pz h.qc (by decide) hg),?_,fun g hg=>.inl (h.fi g hg),fun g hg=>.inl (h.fk g hg),?_⟩,qp a h.fw h.fp⟩
 ·rw[hl];exact c
 ·rw[hl];simpa [encI]using b
 ·rw[hl];exact wL b d h.fp
end
end Go.Proofs.YtlgidcmmgohagaaGreat
