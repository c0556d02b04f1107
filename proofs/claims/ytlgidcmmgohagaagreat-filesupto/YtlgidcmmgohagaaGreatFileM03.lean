/- What is proved here: the jX own store. -/
import Derived.Test.YtlgidcmmgohagaaGreatFileM02
namespace Go.Proofs.YtlgidcmmgohagaaGreat
open Go.RowKit Go.Sort Go.Shelf Go.Proofs.Tryz
set_option linter.unusedVariables false
set_option maxRecDepth 100000
set_option maxHeartbeats 16000000
variable {b base c cap cap' ec el g i n p r size z:Nat}{news xs:fE}{a ea:e5}{F F' G:Nat->Prop}{W w w' w1 w2:World}{T e t:fL}{own:Option Nat}{hi k x:Int}{ep:List Ob}{v:Value}{o1:Obj}{d:eu}{cs:Array Value}
def vR (ep:List Ob)(e:eD):Int:=((ep[e.2.2.toNat]?).map (·.high)).getD 0
def ol (ep:List Ob)(es:List eD):Int:=es.foldl (fun h e=>max h (1+vR ep e)) 0
theorem vS(ep:List Ob)(es:List eD)(e:eD):ol ep (es++[e])=max (ol ep es) (1+vR ep e):=by
 simp only[ol,M6,xH,List.foldl_nil]
theorem QM:(prog.info? 108).map (fun i=>(i.zero,i.size,i.bytes))=some (some (.agg #[ed 0,.string ByteArray.empty,.slice none 0 0,ed 0]),4,56):=by kernel_rfl
theorem QN(r:Nat)(a:e5)(cap:Nat)(ep:List Ob)(o:Ob)(w:World)(h:iu F w r a cap ep)(ho:kK G w o)(i:Nat)(hf:findAt ep o=some i):
  eK 78 #[fj r,kL o] w (ml (ed i) w):=by
 have c:∀B,gS w (w.alloc B):=fun B=>(i7 _ _).alloc (io _) _;have b:=fun B:Obj=>u7 r a cap ep o (w.alloc B) (h.below (c B)) (ho.below (c B));rw[hf]at b;have g:decide ((0:Int)<=(i:Int))=true:=by simp
 unfold kL at b ⊢;unfold Cl at b;have d:∀B:Obj,eK 149 #[fj r,.agg #[ed o.kind,.string o.data,.slice o.ea o.el o.ec,ed o.high]] (w.alloc B) fun e w'=>e=.returned (ed i)/\Below (w.alloc B).heap.size (w.alloc B) w':=b
 clear b;go_enter func78,ntmps78;go_wp2_with fail;refine(d _).mono ?_;rintro e w1 ⟨rfl,f⟩;go_wp2;go_ret;exact⟨rfl,(c _).trans (f.mono (by simp))⟩
theorem NR(r:Nat)(a:e5)(cap:Nat)(ep:List Ob)(o:Ob)(w:World)(h:iu F w r a cap ep)(ho:kK G w o)(hf:findAt ep o=none)(hn:400<=ep.length):
  eK 78 #[fj r,kL o] w (ml (ed (-1)) w):=by
 have c:∀B,gS w (w.alloc B):=fun B=>(i7 _ _).alloc (io _) _;have b:=fun B:Obj=>u7 r a cap ep o (w.alloc B) (h.below (c B)) (ho.below (c B));rw[hf]at b;unfold kL at b ⊢;have f:∀B:Obj,eK 149 #[fj r,.agg #[ed o.kind,.string o.data,.slice o.ea o.el o.ec,ed o.high]] (w.alloc B) fun e w'=>e=.returned (ed (-1))/\Below (w.alloc B).heap.size (w.alloc B) w':=b;clear b;go_enter func78,ntmps78;go_wp2_with fail;refine(f _).mono ?_;rintro e w1 ⟨rfl,g⟩;have d:=(c _).trans (g.mono (by simp));have i:=(h.below d).c0;go_wp2;go_ret;exact⟨rfl,d⟩
def jv (W:World)(b:Nat)(k:Int)(d:eu)(ea:e5)(el ec:Nat)(hi:Int):Prop:=W.heap[b]?=some (.cells #[.int .i64 k,.string d,.slice ea el ec,.int .i64 hi] 108 (0,0))
theorem jv.parts(h:jv W b k d ea el ec hi):W.cell? (eb b 2)=some (.slice ea el ec)/\W.cell? (eb b 3)=some (ed hi)/\W.frozen? (eb b 3)=false:=by
 unfold jv at h;refine⟨?_,?_,?_⟩<;>simp[World.cell?,World.frozen?,h]
theorem jv.SM(h:jv W b k d ea el ec hi):W.cell? (eb b 0)=some (ed k)/\W.cell? (eb b 1)=some (.string d):=by
 unfold jv at h;refine⟨?_,?_⟩<;>simp[World.cell?,h]
theorem Cm{r:Option Nat}(hg:(w.alloc o1).drew.grownBy w1 r)(hp:p<w.heap.size)(hr:some p≠r)(h:w.cell? (eb p i)=some v):w1.cell? (eb p i)=some v:=by
 rw[ig (a:=(eb p i)) (hg.block p (by simp;omega) hr)];show(w.alloc o1).cell? (eb p i)=_;rw[SB _ _ _ hp,h]
theorem xZ{r:Option Nat}(hg:(w.alloc o1).drew.grownBy w1 r)(hp:p<w.heap.size)(hr:some p≠r)(h:w.frozen? (eb p i)=false):w1.frozen? (eb p i)=false:=by
 rw[MW (a:=(eb p i)) (hg.block p (by simp;omega) hr)];show(w.alloc o1).frozen? (eb p i)=_;rw[TD _ _ _ hp,h]
theorem jv.high(h:jv W b k d ea el ec hi)(x:Int):jv (W.setCell (eb b 3) (ed x)) b k d ea el ec x:=by
 unfold jv at h ⊢;simp[World.setCell,xE,h]
theorem oH(h:en F w w')(q:Nat):en F w (w'.drewN q):=⟨h.os,h.tape,h.output,h.size,h.block⟩
theorem KC(h:en (fun k=>k=b) w w'):en (fun k=>k=b) w (w'.setCell (eb b i) v):=
 ⟨h.os,h.tape,h.output,by simpa using h.size,fun k hk hne=>by rw[ij _ _ _ _ hne];exact h.block k hk hne⟩
theorem KD{w wr w2:World}(h:iu F w r a cap ep)(kb:∀q,q<w.heap.size->wr.heap[q]?=w.heap[q]?)(KE:w.heap.size<wr.heap.size)
  (hq:wr.os=w.os/\wr.tape=w.tape/\wr.output=w.output)(M2:some r≠(Value.slice a ep.length cap).ownBlock)(d:w2.ownsRow 0 108 4 (.slice (some (eb g 0)) (ep.length+1) cap') (ep.length+1) (fB ep++news))
  (hg:(wr.alloc o1).drew.grownBy w2 (Value.slice a ep.length cap).ownBlock)(b:(Value.slice (some (eb g 0)) (ep.length+1) cap').ownBlock=(Value.slice a ep.length cap).ownBlock\/(Value.slice (some (eb g 0)) (ep.length+1) cap').ownBlock=some (wr.alloc o1).drew.heap.size):
  (w2.setCell (eb r 0) (.slice (some (eb g 0)) (ep.length+1) cap')).heap[r]?=some (.cells #[.slice (some (eb g 0)) (ep.length+1) cap'] 94 (0,0))/\(w2.setCell (eb r 0) (.slice (some (eb g 0)) (ep.length+1) cap')).ownsRow 0 108 4 (.slice (some (eb g 0)) (ep.length+1) cap') (ep.length+1) (fB ep++news)/\
    ((some g:Option Nat)=(Value.slice a ep.length cap).ownBlock\/w.heap.size<=g)/\en (fun k=>k=r\/some k=(Value.slice a ep.length cap).ownBlock) w (w2.setCell (eb r 0) (.slice (some (eb g 0)) (ep.length+1) cap')):=by
 have c:∀k,k<w.heap.size->some k≠(Value.slice a ep.length cap).ownBlock->w2.heap[k]?=w.heap[k]?:=by
  intro k hk hne;rw[hg.block k (by simp;omega) hne];show(wr.alloc o1).heap[k]?=_;rw[jU _ _ _ (by omega),kb k hk]
 have f:w2.heap[r]?=some (.cells #[.slice a ep.length cap] 94 (0,0)):=by rw[c r h.lt M2,h.hr]
 have i:g≠r:=by
  rintro rfl;rcases b with h1|h1
  ·exact M2 h1
  ·have:=h.lt;simp[Value.ownBlock]at h1;omega
 have hs:=hg.size;simp at hs;refine⟨?_,?_,?_,⟨hg.os.trans hq.1,hg.tape.trans hq.2.1,hg.output.trans hq.2.2,by simp;omega,?_⟩⟩
 ·simp[World.setCell,xE,f]
 ·obtain⟨h1,h2⟩:=d
  refine⟨h1,?_⟩;rcases h2 with⟨h,_⟩|⟨n,o,j,hv,l,m,r⟩
  ·cases h
  ·cases hv
   exact Or.inr ⟨g,cap',j,rfl,l,by rw[ij _ _ _ _ i];exact m,r⟩
 ·rcases b with h|h
  ·exact Or.inl h
  ·simp[Value.ownBlock]at h;exact Or.inr (by omega)
 ·intro k hk hne
  rw[ij _ _ _ _ (fun e=>hne (.inl e)),c k hk (fun e=>hne (.inr e))]
theorem NS(r:Nat)(a:e5)(cap:Nat)(ep:List Ob)(o:Ob)(w:World)(h:iu F w r a cap ep)(ho:kK G w o)(Y:o.high=0)(hf:findAt ep o=none)(hn:ep.length<400)
  (I:∀e∈o.eG,0<=e.2.2/\e.2.2<(ep.length:Int)):
  eK 78 #[fj r,kL o] w fun e w'=>e=.returned (ed ep.length)/\
   ∃g cap',w'.heap[r]?=some (.cells #[.slice (some (eb g 0)) (ep.length+1) cap'] 94 (0,0))/\w'.ownsRow 0 108 4 (.slice (some (eb g 0)) (ep.length+1) cap') (ep.length+1) (fB ep++Ob.cells { o with high:=ol ep o.eG })/\
    ((some g:Option Nat)=(Value.slice a ep.length cap).ownBlock\/w.heap.size<=g)/\en (fun k=>k=r\/some k=(Value.slice a ep.length cap).ownBlock) w w':=by
 obtain⟨Z,hi,aa,ab,ac⟩:=H4 QM;have u:∀B,gS w (w.alloc B):=fun B=>(i7 _ _).alloc (io _) _;have p:=fun B:Obj=>u7 r a cap ep o (w.alloc B) (h.below (u B)) (ho.below (u B));rw[hf]at p;unfold kL at p ⊢;have v:∀B:Obj,eK 149 #[fj r,.agg #[ed o.kind,.string o.data,.slice o.ea o.el o.ec,ed o.high]] (w.alloc B) fun e w'=>e=.returned (ed (-1))/\Below (w.alloc B).heap.size (w.alloc B) w':=p;clear p;have ad:Hid (∀x∈ep,0<=x.high/\x.high<=5):=fun x hx=>⟨(h.xe x hx).DL,(h.xe x hx).DM⟩;have ae:Hid (∀e∈o.eG,0<=e.2.2/\e.2.2<(ep.length:Int)):=I;have aq:o.el<=16:=ho.few;have J:Hid (o.eG.length=o.el):=ho.len;clear I;rw[Y]at v ⊢;go_enter func78,ntmps78;go_wp2_with fail;refine(v _).mono ?_;rintro e w1 ⟨rfl,y⟩;have m:=(u _).trans (y.mono (by simp));have ar:=(h.below m).c0;have K:r<w.heap.size:=h.lt;have af:Hid (jv w1 w.heap.size o.kind o.data o.ea o.el o.ec 0):=by
  show w1.heap[w.heap.size]?=_;rw[y.block _ (by simp)];exact pM _ _
 have ag:w.heap.size<w1.heap.size:=by have:=y.size;simp at this;omega
 clear v;go_wp2
 go_loopw [6] (fun i wr=>∃k:Nat,k<=o.el/\i=.int .i64 k/\Hid (en (fun k=>k=w.heap.size) w1 wr)/\Hid (jv wr w.heap.size o.kind o.data o.ea o.el o.ec (ol ep (o.eG.take k)))/\0<=ol ep (o.eG.take k)/\ol ep (o.eG.take k)<=6) (fun i _=>o.el-(intOf i).toNat)
 case atStart=>exact⟨0,oY _,rfl,⟨rfl,rfl,rfl,io _,fun _ _ _=>rfl⟩,af,by show(0:Int)<=0;omega,by show(0:Int)<=6;omega⟩
 case round=>
  obtain⟨k,hk,rfl,c,n,L,M⟩:=hrel;have kb:∀q,q<w.heap.size->wr.heap[q]?=w.heap[q]?:=fun q hq=>(c.out.block q (by omega) (by omega)).trans (m.block q hq);have KE:w.heap.size<wr.heap.size:=kv ag c.out.size;have N:wr.cell? (eb r 0)=some (.slice a ep.length cap):=(ig (a:=(eb r 0)) (kb r K)).trans h.c0;obtain⟨ah,z,fz⟩:=n.out.parts;by_cases ai:k<o.el
  ·have A:k<o.eG.length:=by rw[J.out];exact ai
   have s:=ho.row;obtain⟨C,au,O⟩:=ej s (by omega);have P:=(kW O).1;rw[P]at s ah;clear P O;have aj:C<w.heap.size:=ee s rfl;obtain⟨_,_,e2⟩:=i2 (off:=0) (hh s) A;rw[PH]at e2;obtain⟨ak,al⟩:=ae.out _ (iF A);obtain⟨j,hj⟩:∃j:Nat,o.eG[k].2.2=(j:Int):=⟨o.eG[k].2.2.toNat,by omega⟩;have D:j<ep.length:=by omega
   rw[hj]at e2;have av:=(ig (a:=(eb C (k*3+2))) (kb C aj)).trans e2;obtain⟨g,Q,am,_,_,_,c3⟩:=iG h.row rfl D;rw[Q]at N;clear Q;have aw:=(ig (a:=(eb g (j*4+3))) (kb g am)).trans c3;obtain⟨ax,ay⟩:=ad.out ep[j] (iF D);have l:Hid (ol ep (o.eG.take (k+1))=max (ol ep (o.eG.take k)) (1+ep[j].high)):=by
    show _=_;rw[sZ A,vS];unfold vR;rw[hj,lV,gJ D];rfl
   obtain⟨b,d⟩:∃b,b=ol ep (o.eG.take k):=⟨_,rfl⟩;rw[<-d]at L M z;have f:Hid (b=ol ep (o.eG.take k)):=d;clear c3 e2 d hj ak al;by_cases H2:b<1+ep[j].high
   ·go_wp2
    go_quiet (fail)
    go_wp2;go_roundw
    case rel=>
     refine⟨k+1,by omega,by go_num,KC (oH c.out nq),?_,by rw[l.out,<-f.out];omega,by rw[l.out,<-f.out];omega⟩;rw[l.out,<-f.out,Int.max_eq_right (by omega)];exact jv.high (W:=wr.drewN nq) n.out _
    case measure=>simp[intOf];omega
   ·go_wp2
    go_quiet (fail)
    go_wp2;go_roundw
    case rel=>
     refine⟨k+1,by omega,by go_num,oH c.out nq,?_,by rw[l.out,<-f.out];omega,by rw[l.out,<-f.out];omega⟩;rw[l.out,<-f.out,Int.max_eq_left (by omega),f.out];exact n.out
    case measure=>simp[intOf];omega
  ·have az:k=o.el:=by omega
   have R:Hid (o.eG.take k=o.eG):=jH (by rw[J.out];omega);rw[R.out]at z;have S:Hid (jv wr w.heap.size o.kind o.data o.ea o.el o.ec (ol ep o.eG)):=by have:=n.out;rwa [R.out]at this
   obtain⟨q0,aA⟩:=S.out.SM;obtain⟨b,d⟩:∃b,b=ol ep o.eG:=⟨_,rfl⟩;rw[<-d]at z S;have an:Hid (b=ol ep o.eG):=d;clear L M d n;have ao:Hid (wr.ownsRow 0 108 4 (.slice a ep.length cap) ep.length (fB ep)):=eh h.row (fun g hg=>kb g (ee h.row hg));have E:Hid (some r≠(Value.slice a ep.length cap).ownBlock):=eI h.row h.hr (by decide);have ap:Hid (∀T∈[Value.int .i64 o.kind,.string o.data,.slice o.ea o.el o.ec,ed b],T.oneCell'=true):=by intro T hu;simp at hu;rcases hu with rfl|rfl|rfl|rfl<;>rfl
   have pN:wr.frozen? (eb r 0)=false:=(MW (a:=(eb r 0)) (kb r K)).trans h.f0;have U:r<wr.heap.size:=by omega
   go_wp2
   go_region_law(refine pm rfl (.tmp 51) (.tmp 53) 92 rfl 0 108 Z _ 4 56 underlying92 hi aa ab ac rfl (by decide) (.slice a ep.length cap) ep.length (fB ep) (by simp[Act.eval]) (ao.out.alloc _) (eb wr.heap.size 0) 1 1 [ed o.kind,.string o.data,.slice o.ea o.el o.ec,ed b] (by simp[Act.eval]) rfl (Nt wr (ed o.kind) (.string o.data) (.slice o.ea o.el o.ec) (ed b) 108) ap.out (by unfold maxLen;omega) (by omega) (oY _) ?_;intro aB w2 H t V;obtain⟨g,cap',rfl⟩:=ej H (by omega);have aC:=Cm t U E.out N;have aD:=xZ t U E.out pN)
   all_goals
    have X:Hid _:=KD h kb KE ⟨c.out.os.trans m.os,c.out.tape.trans m.tape,c.out.output.trans m.output⟩ E.out H t V;clear H t V;go_wp2;go_ret;rw[an.out]at X;exact⟨by simp,g,cap',X.out⟩
theorem p3(h:w.ownsRow base e size v n xs)(hg:v.ownBlock=some g):∃a,w.heap[g]?=some (.cells a e (0,0)):=by
 rcases h.2 with⟨rfl,_⟩|⟨c,cap,a,rfl,_,b,_⟩
 ·simp[Value.ownBlock]at hg
 ·simp[Value.ownBlock]at hg;subst hg;exact⟨a,b⟩
def eU (F:Nat->Prop)(w:World)(r:Nat)(ep:List Ob):Prop:=∃a cap,iu F w r a cap ep
theorem eU.keep(h:eU F w r ep)(hF:∀k,F k->F' k)(hk:∀k,F k->w'.heap[k]?=w.heap[k]?):eU F' w' r ep:=by
 obtain⟨a,cap,h⟩:=h;exact⟨a,cap,h.keep hF hk⟩
theorem eU.below(h:eU F w r ep)(b:gS w w')(hF:∀k,F k->F' k):eU F' w' r ep:=by
 obtain⟨a,cap,h⟩:=h;have h':=h.below b;exact⟨a,cap,h'.keep hF (fun _ _=>rfl)⟩
theorem foldl_max(f:eD->Int):∀(es:List eD) (h:Int),h<=es.foldl (fun h e=>max h (f e)) h
 |[],_=>pT _
 |e::r,h=>Int.le_trans (Int.le_max_left _ _) (foldl_max f r _)
theorem zX(ep:List Ob)(es:List eD):0<=ol ep es:=foldl_max (fun e=>1+vR ep e) es 0
theorem iu.put{o:Ob}(h:iu F w r a cap ep)(ho:kK G w o)(d:ol ep o.eG<=5)(hn:ep.length<400)
  (h1:w'.heap[r]?=some (.cells #[.slice (some (eb g 0)) (ep.length+1) cap'] 94 (0,0)))(h2:w'.ownsRow 0 108 4 (.slice (some (eb g 0)) (ep.length+1) cap') (ep.length+1) (fB ep++Ob.cells { o with high:=ol ep o.eG }))
  (h3:(some g:Option Nat)=(Value.slice a ep.length cap).ownBlock\/w.heap.size<=g)(b:en (fun k=>k=r\/some k=(Value.slice a ep.length cap).ownBlock) w w'):
  iu (fun k=>F k\/G k\/(w.heap.size<=k/\k<w'.heap.size)) w' r (some (eb g 0)) cap' (ep++[{ o with high:=ol ep o.eG }])/\en F w w':=by
 have hl:(ep++[{ o with high:=ol ep o.eG }]).length=ep.length+1:=by simp
 have items:∀{v:Value} {n:Nat} {xs:fE},w.ownsRow 0 112 3 v n xs->w'.ownsRow 0 112 3 v n xs:=by
  intro v n xs hr;refine eh hr fun k hk=>?_
  obtain⟨f,c⟩:=p3 hr hk;refine b.block k (ee hr hk) ?_;rintro(rfl|e)
  ·have:=h.hr;rw[c]at this;cases this
  ·exact eI h.row c (by decide) e
 refine⟨⟨.inl h.fr,?_,?_,?_,?_,?_⟩,⟨b.os,b.tape,b.output,b.size,?_⟩⟩
 ·intro k hk
  rcases h3 with e|e
  ·refine .inl (h.fa k ?_)
   rw[<-e];exact hk
  ·simp only[Value.ownBlock,kE]at hk
   subst hk;exact .inr (.inr ⟨e,ee h2 rfl⟩)
 ·rw[hl];exact h1
 ·rw[hl,tu];exact h2
 ·rw[hl];omega
 ·intro x hx
  rcases pR.1 hx with hx|hx
  ·have:=h.xe x hx
   exact⟨this.kind,this.size,this.len,this.few,this.DL,this.DM,items this.row,fun k hk=>.inl (this.own k hk)⟩
  ·rw[kH.1 hx]
   exact⟨ho.kind,ho.size,ho.len,ho.few,zX _ _,d,items ho.row,fun k hk=>.inr (.inl (ho.own k hk))⟩
 ·intro k hk NJ
  refine b.block k hk ?_;rintro(rfl|e)
  ·exact NJ h.fr
  ·exact NJ (h.fa k e.symm)
def x4 (ep a:List Ob)(o:Ob)(x:Int):Prop:=
 (∃i:Nat,findAt ep o=some i/\a=ep/\x=i)\/(findAt ep o=none/\400<=ep.length/\a=ep/\x=-1)\/
 (findAt ep o=none/\ep.length<400/\a=ep++[{ o with high:=ol ep o.eG }]/\x=ep.length)
def Grow (F G:Nat->Prop)(w w':World)(k:Nat):Prop:=F k\/G k\/(w.heap.size<=k/\k<w'.heap.size)
theorem DN(h:eU F w r ep)(o:Ob)(ho:kK G w o)(f:o.high=0)(j:ol ep o.eG<=5)(l:∀e∈o.eG,0<=e.2.2/\e.2.2<(ep.length:Int)):
  eK 78 #[fj r,kL o] w fun e w'=>∃x d,e=.returned (ed x)/\x4 ep d o x/\eU (Grow F G w w') w' r d/\en F w w':=by
 obtain⟨a,cap,h⟩:=h;have inv:eU F w r ep:=⟨a,cap,h⟩;cases hf:findAt ep o with
 |some i=>
  refine(QN r a cap ep o w h ho i hf).mono fun e w' ⟨b,c⟩=>?_;exact⟨_,ep,b,.inl ⟨i,hf,rfl,rfl⟩,inv.below c (fun k hk=>.inl hk),en.ew c⟩
 |none=>
  by_cases hn:400<=ep.length
  ·refine(NR r a cap ep o w h ho hf hn).mono fun e w' ⟨b,c⟩=>?_
   exact⟨_,ep,b,.inr (.inl ⟨hf,hn,rfl,rfl⟩),inv.below c (fun k hk=>.inl hk),en.ew c⟩
  ·refine(NS r a cap ep o w h ho f hf (by omega) l).mono fun e w' ⟨b,g,cap',h1,h2,h3,m⟩=>?_
   have:=h.put ho j (by omega) h1 h2 h3 m
   exact⟨_,_,b,.inr (.inr ⟨hf,by omega,rfl,rfl⟩),⟨_,_,this.1⟩,this.2⟩
def tG (ep a:List Ob)(d:eu)(x y:Int):Prop:=
 (256<d.size/\a=ep/\x=-1/\y=11)\/
 (d.size<=256/\((∃i:Nat,findAt ep (sq d)=some i/\a=ep/\x=i/\y=0)\/(findAt ep (sq d)=none/\400<=ep.length/\a=ep/\x=-1/\y=11)\/
  (findAt ep (sq d)=none/\ep.length<400/\a=ep++[sq d]/\x=ep.length/\y=0)))
theorem tH(h:eU F w r ep)(d:eu)(hd:d.size<=maxLen):
  eK 36 #[fj r,.string d] w fun e w'=>∃x y a,e=.returned (.tuple #[ed x,ed y])/\tG ep a d x y/\eU (ie F w w') w' r a/\en F w w':=by
 unfold maxLen at hd;by_cases hs:256<d.size
 ·have b:Hid (eU F w r ep):=h
  clear h;go_enter func36,ntmps36;go_wp2;go_ret2;exact⟨_,_,ep,rfl,.inl ⟨hs,rfl,rfl,rfl⟩,b.out.below (i7 _ _) (fun k hk=>.inl hk),en.ew (i7 _ _)⟩
 ·have ho:kK (fun _=>False) w (sq d):=⟨.inl rfl,by show d.size<=256;omega,rfl,by show 0<=16;omega,pT _,by show(0:Int)<=5;omega,UV _ _ _ _,fun g hg=>by cases hg⟩
  have f:=DN h (sq d) ho rfl (by show(0:Int)<=5;omega) (fun e n=>by cases n);have j:eK 78 #[fj r,.agg #[ed 1,.string d,.slice none 0 0,ed 0]] w fun e w'=>∃x a,e=.returned (ed x)/\x4 ep a (sq d) x/\eU (Grow F (fun _=>False) w w') w' r a/\en F w w':=f;clear f h ho;have l:d.size<=256:=by omega
  go_enter func36,ntmps36;go_wp2_with fail;refine j.mono ?_;rintro e w' ⟨x,a,rfl,hp,hi,hk⟩;have b:Hid (eU (ie F w w') w' r a/\en F w w'):=⟨hi.keep (fun k hk=>by rcases hk with h|h|h;exact .inl h;exact h.elim;exact .inr h) (fun _ _=>rfl),hk⟩;have m:Hid (x4 ep a (sq d) x):=hp;clear j hi hk hp;by_cases hx:x<0
  ·go_wp2
   go_ret2;refine⟨_,_,a,rfl,.inr ⟨l,?_⟩,b.out⟩;rcases m.out with⟨i,h1,h2,h3⟩|⟨h1,h2,h3,c⟩|⟨h1,h2,h3,c⟩
   ·omega
   ·exact .inr (.inl ⟨h1,h2,h3,rfl,rfl⟩)
   ·omega
  ·go_wp2
   go_ret2;refine⟨_,_,a,rfl,.inr ⟨l,?_⟩,b.out⟩;rcases m.out with⟨i,h1,h2,h3⟩|⟨h1,h2,h3,c⟩|⟨h1,h2,h3,c⟩
   ·exact .inl ⟨i,h1,h2,h3,rfl⟩
   ·omega
   ·exact .inr (.inr ⟨h1,h2,h3,c,rfl⟩)
theorem DO(a:e5)(c0:Nat)(w:World):eK 107 #[.slice a 0 c0] w (tz (.slice none 0 0) w):=by
 go_enter func107,ntmps107;go_wp2
 go_loopw [3,4] (fun v i wo=>v=.slice none 0 0/\i=.int .i64 0/\wo=w) (fun _ _ _=>0)
 case atStart=>exact⟨rfl,rfl,rfl⟩
 case round=>
  obtain⟨rfl,rfl,rfl⟩:=hrel;go_wp2;go_ret;exact⟨rfl,rfl⟩
def fF (w:World)(a:e5)(m:Nat)(c:List eD):Prop:=c.length=m/\(0<m->∃b off,a=some ⟨b,off,none⟩/\b<w.heap.size/\∀j d,(flat c)[j]?=some d->w.cell? ⟨b,off+j,none⟩=some d)
theorem x5(a:e5)(m c0:Nat)(c:List eD)(w:World)(hl:fF w a m c)(hm:m<=16)(d:∀e∈c,e.1.size<=maxLen):
  eK 107 #[.slice a m c0] w fun e w'=>∃v,e=.returned v/\w'.ownsRow w.heap.size 112 3 v m (flat (wl c))/\gS w w':=by
 rcases Nat.eq_zero_or_pos m with rfl|hp
 ·have:c=[]:=zN hl.1
  subst this;exact(DO a c0 w).mono fun e w' ⟨f,hw⟩=>⟨_,f,by subst hw;exact UV _ _ _ _,by subst hw;exact i7 _ _⟩
 ·obtain⟨b,off,rfl,g,hc⟩:=hl.2 hp
  exact GG b off m c0 c w hl.1 hm g hc d
def jw (ep:List Ob)(e:eD):Bool:=decide (0<=e.2.2)&&decide (((ep[e.2.2.toNat]?).map (·.kind)).getD 0=e.2.1)
def GH (v:e5×Nat)(m:Nat)(es:List eD):Ob:={ kind:=2,data:=ByteArray.empty,ea:=v.1,el:=m,ec:=v.2,eG:=es,high:=0 }
def tI (ep b:List Ob)(a:List eD)(x y:Int):Prop:=
 ((∃e∈a,ez e.1=false)/\b=ep/\x=-1/\y=1)\/
 ((∀e∈a,ez e.1=true)/\
  ((¬(a.map (·.1)).Nodup/\b=ep/\x=-1/\y=6)\/
   ((a.map (·.1)).Nodup/\16<a.length/\b=ep/\x=-1/\y=11)\/
   ((a.map (·.1)).Nodup/\a.length<=16/\(∃e∈a,jw ep e=false)/\b=ep/\x=-1/\y=13)\/
   ((a.map (·.1)).Nodup/\a.length<=16/\(∀e∈a,jw ep e=true)/\5<ol ep a/\b=ep/\x=-1/\y=11)\/
   ((a.map (·.1)).Nodup/\a.length<=16/\(∀e∈a,jw ep e=true)/\ol ep a<=5/\∃v z,x4 ep b (GH v a.length (wl a)) z/\((z<0/\x=-1/\y=11)\/(0<=z/\x=z/\y=0)))))
theorem lf(h:w.ownsRow base e size v n xs):∃a c,v=.slice a n c:=by
 rcases h.2 with⟨rfl,rfl⟩|⟨g,cap,_,hv,_⟩
 ·exact⟨none,0,rfl⟩
 ·exact⟨_,_,hv⟩
theorem en.after(h:en F w1 w2)(a:gS w w1):en F w w2:=
 ⟨h.os.trans a.os,h.tape.trans a.tape,h.output.trans a.output,pD a.size h.size,fun k hk hn=>(h.block k (kv hk a.size) hn).trans (a.block k hk)⟩
theorem p4(ep:List Ob){es fs:List eD}(h:es.Perm fs):ol ep es=ol ep fs:=by
 unfold ol;refine List.Perm.foldl_eq' h (fun x _ y _ z=>?_) 0;omega
theorem vT(h:eU F w r ep)(a:e5)(m c0:Nat)(c:List eD)(hl:fF w a m c)(aS:m*32<=140737488355328)(af:∀e∈c,e.1.size<=maxLen)
  (ag:∀e∈c,-1<=e.2.2/\e.2.2<(ep.length:Int)):
  eK 82 #[fj r,.slice a m c0] w fun e w'=>∃x y n,e=.returned (.tuple #[ed x,ed y])/\tI ep n c x y/\eU (ie F w w') w' r n/\en F w w':=by
 have R:Hid (eU F w r ep):=h;have ah:Hid (∀e∈c,e.1.size<=maxLen):=af;have ai:Hid (∀e∈c,-1<=e.2.2/\e.2.2<(ep.length:Int)):=ag;have l:Hid (c.length=m):=hl.1;have N:Hid (fF w a m c):=hl;have s:∀q,Hid (eU (ie F w (w.drewN q)) (w.drewN q) r ep/\en F w (w.drewN q)):=fun q=>⟨R.out.below (PP (i7 _ _) q) (fun k hk=>.inl hk),en.ew (PP (i7 _ _) q)⟩;clear h af ag hl;go_enter func82,ntmps82;go_wp2
 go_loopw [6] (fun i wr=>∃k:Nat,k<=m/\i=.int .i64 k/\(∃q,wr=w.drewN q)/\Hid (∀j (hj:j<c.length),j<k->ez c[j].1=true)) (fun i _=>m-(intOf i).toNat)
 case atStart=>exact⟨0,oY _,rfl,⟨0,rfl⟩,fun j hj h=>by omega⟩
 case round=>
  obtain⟨k,hk,rfl,⟨q,rfl⟩,S⟩:=hrel;by_cases aG:k<m
  ·have T:k<c.length:=by rw[l.out];exact aG
   obtain⟨b,off,rfl,aj,hc⟩:=N.out.2 (by omega);obtain⟨d0,_,_⟩:=i2 hc T;have ak:Hid (∀j D,(flat c)[j]?=some D->w.cell? (eb b (off+j))=some D):=hc;clear hc;have aH:(w.drewN q).cell? (eb b (off+k*3))=some (.string c[k].1):=d0;have hv:=fun W=>Az c[k].1 W (ah.out c[k] (iF T));cases u:ez c[k].1 with
   |false=>
    have U:Hid (ez c[k].1=false):=u;rw[u]at hv;clear u;go_wp2_with(go_at_call 150;refine(hv _).mono ?_;rintro e w' ⟨rfl,V,rfl⟩);go_ret2;exact⟨_,_,ep,rfl,.inl ⟨⟨c[k],iF T,U.out⟩,rfl,rfl,rfl⟩,(s (q+V)).out⟩
   |true=>
    have U:Hid (ez c[k].1=true):=u;rw[u]at hv;clear u;go_wp2_with(go_at_call 150;refine(hv _).mono ?_;rintro e w' ⟨rfl,V,rfl⟩);go_roundw
    case rel=>
     refine⟨k+1,by omega,by go_num,⟨q+V,rfl⟩,?_⟩;intro j hj aI;by_cases e:j=k
     ·subst e;exact U.out
     ·exact S.out j hj (by omega)
    case measure=>simp[intOf];omega
  ·have o:Hid (∀x∈c,ez x.1=true):=by
    intro x hx;obtain⟨j,hj,rfl⟩:=mH hx;exact S.out j hj (by rw[l.out]at hj;omega)
   clear S;go_wp2
   go_loopw [8] (fun i wr=>∃k:Nat,k<=m/\i=.int .i64 k/\(∃q,wr=w.drewN q)/\Hid (∀i j (hi:i<c.length) (hj:j<c.length),i<k->j<i->c[i].1≠c[j].1)) (fun i _=>m-(intOf i).toNat)
   case atStart=>exact⟨0,oY _,rfl,⟨q,rfl⟩,fun i j hi hj h1 h2=>by omega⟩
   case round=>
    obtain⟨d,hk2,rfl,⟨X,rfl⟩,Y⟩:=hrel;by_cases aJ:d<m
    ·have al:d<c.length:=by rw[l.out];exact aJ
     obtain⟨b,off,rfl,aj,hc⟩:=N.out.2 (by omega);obtain⟨d0,_,_⟩:=i2 hc al;have ak:Hid (∀j D,(flat c)[j]?=some D->w.cell? (eb b (off+j))=some D):=hc;clear hc;have aT:(d:Int)<(m:Int):=by omega
     go_wp2
     go_loopw [9] (fun i wr=>∃f:Nat,f<=d/\i=.int .i64 f/\(∃q,wr=w.drewN q)/\Hid (∀j (hj:j<c.length),j<f->c[d].1≠c[j].1)) (fun i _=>d-(intOf i).toNat)
     case atStart=>exact⟨0,oY _,rfl,⟨X,rfl⟩,fun j hj h=>by omega⟩
     case round=>
      obtain⟨f,aU,rfl,⟨O,rfl⟩,am⟩:=hrel;by_cases aK:f<d
      ·have an:f<c.length:=by omega
       obtain⟨aL,_,_⟩:=i2 ak.out an;have aH:(w.drewN O).cell? (eb b (off+d*3))=some (.string c[d].1):=d0;have aV:(w.drewN O).cell? (eb b (off+f*3))=some (.string c[f].1):=aL;have aW:(f:Int)<(m:Int):=by omega
       cases ao:c[d].1.toList==c[f].1.toList with
       |true=>
        have Z:Hid ((c[d].1.toList==c[f].1.toList)=true):=ao;go_wp2
        go_quiet (fail)
        go_wp2;go_ret2;refine⟨_,_,ep,rfl,.inr ⟨o.out,.inl ⟨?_,rfl,rfl,rfl⟩⟩,by rw[BU];exact(s _).out⟩;intro nw;have hne:=MT.1 nw f d (by simpa using an) (by simpa using al) aK;simp only[BS]at hne;exact hne (pV (by simpa using Z.out)).symm
       |false=>
        have Z:Hid ((c[d].1.toList==c[f].1.toList)=false):=ao;go_wp2
        go_quiet (fail)
        go_wp2;go_roundw
        case rel=>
         refine⟨f+1,by omega,by go_num,⟨O+nq,rfl⟩,?_⟩;intro j hj aI;by_cases e:j=f
         ·subst e;intro h;have:=Z.out;rw[h]at this;simp at this
         ·exact am.out j hj (by omega)
        case measure=>simp[intOf];omega
      ·go_wp2
       go_roundw
       case rel=>
        refine⟨d+1,by omega,by go_num,⟨O,rfl⟩,?_⟩;intro i j hi hj h1 h2;by_cases e:i=d
        ·subst e;exact am.out j hj (by omega)
        ·exact Y.out i j hi hj (by omega) h2
       case measure=>simp[intOf];omega
    ·have A:Hid ((c.map (·.1)).Nodup):=by
      refine MT.2 fun i j hi hj aM=>?_;simp only[BS];simp only[kU]at hi hj;exact(Y.out j i hj hi (by rw[l.out]at hj;omega) aM).symm
     clear Y;by_cases NE:16<m
     ·go_wp2
      go_ret2;exact⟨_,_,ep,rfl,.inr ⟨o.out,.inr (.inl ⟨A.out,by rw[l.out];exact NE,rfl,rfl,rfl⟩)⟩,(s X).out⟩
     ·have E:m<=16:=by omega
      go_wp2
      go_loopw [10,11] (fun t i wr=>∃k:Nat,∃G:Bool,k<=m/\i=.int .i64 k/\t=.bool G/\(∃q,wr=w.drewN q)/\Hid (G=decide (5<ol ep (c.take k)))/\Hid (∀j (hj:j<c.length),j<k->jw ep c[j]=true)) (fun _ i _=>m-(intOf i).toNat)
      case atStart=>exact⟨0,false,oY _,rfl,rfl,⟨X,rfl⟩,rfl,fun j hj h=>by omega⟩
      case round=>
       obtain⟨k4,G,aX,rfl,rfl,⟨B,rfl⟩,H,I⟩:=hrel;by_cases aN:k4<m
       ·have J:k4<c.length:=by rw[l.out];exact aN
        obtain⟨b,off,rfl,aj,hc⟩:=N.out.2 (by omega);obtain⟨_,d1,d2⟩:=i2 hc J;have aO:(w.drewN B).cell? (eb b (off+k4*3+1))=some (.int .i64 c[k4].2.1):=d1;have aY:(k4:Int)<(m:Int):=by omega
        clear hc;obtain⟨ap,aq⟩:=ai.out _ (iF J);by_cases ar:c[k4].2.2<0
        ·have au:c[k4].2.2=-1:=by omega
         rw[au]at d2;have av:(w.drewN B).cell? (eb b (off+k4*3+2))=some (ed (-1)):=d2;have p:Hid (jw ep c[k4]=false):=by
          show jw ep c[k4]=false;unfold jw;rw[m6 (by omega)];rfl
         clear au ar ap aq;go_wp2
         go_quiet (fail)
         go_wp2;go_ret2;exact⟨_,_,ep,rfl,.inr ⟨o.out,.inr (.inr (.inl ⟨A.out,by rw[l.out];exact E,⟨c[k4],iF J,p.out⟩,rfl,rfl,rfl⟩))⟩,by rw[BU];exact(s _).out⟩
        ·obtain⟨j,hj⟩:∃j:Nat,c[k4].2.2=(j:Int):=⟨c[k4].2.2.toNat,by omega⟩
         have C:j<ep.length:=(by omega);have aZ:(j:Int)<(ep.length:Int):=by omega
         rw[hj]at d2;have av:(w.drewN B).cell? (eb b (off+k4*3+2))=some (ed (j:Int)):=d2;have a0:decide ((j:Int)<0)=false:=by simp
         obtain⟨a1,cap,K⟩:=R.out;obtain⟨g,rfl,a2,c0,_,_,c3⟩:=iG K.row rfl C;have a3:=fun q=>(show(w.drewN q).cell? (eb g (j*4))=some (.int .i64 ep[j].kind)from c0);have a4:=fun q=>(show(w.drewN q).cell? (eb g (j*4+3))=some (.int .i64 ep[j].high)from c3);have a5:=fun q=>(show(w.drewN q).cell? (eb r 0)=some (.slice (some (eb g 0)) ep.length cap)from K.c0);have a6:=fun q=>(show(w.drewN q).cell? (eb b (off+k4*3+2))=some (ed (j:Int))from d2);obtain⟨a7,a8⟩:0<=ep[j].high/\ep[j].high<=5:=⟨(K.xe _ (iF C)).DL,(K.xe _ (iF C)).DM⟩;have a9:=fun q=>(show(w.drewN q).cell? (eb b (off+k4*3+1))=some (.int .i64 c[k4].2.1)from d1);have aa:Hid (c[k4].2.2=(j:Int)):=hj;clear hj ar ap aq K aO av;cases mC:(ep[j].kind != c[k4].2.1) with
         |true=>
          have p:Hid (jw ep c[k4]=false):=by
           show jw ep c[k4]=false;unfold jw;rw[aa.out,lV,gJ C]
           have:¬ep[j].kind=c[k4].2.1:=by simpa using mC
           simp[this]
          go_wp2
          go_quiet (fail)
          go_wp2;go_ret2;exact⟨_,_,ep,rfl,.inr ⟨o.out,.inr (.inr (.inl ⟨A.out,by rw[l.out];exact E,⟨c[k4],iF J,p.out⟩,rfl,rfl,rfl⟩))⟩,by rw[BU];exact(s _).out⟩
         |false=>
          have p:Hid (jw ep c[k4]=true):=by
           show jw ep c[k4]=true;unfold jw;rw[aa.out,lV,gJ C]
           have:ep[j].kind=c[k4].2.1:=by simpa using mC
           simp[this]
          have ab:Hid (ol ep (c.take (k4+1))=max (ol ep (c.take k4)) (1+ep[j].high)):=by
           show _=_;rw[sZ J,vS];unfold vR;rw[aa.out,lV,gJ C];rfl
          cases G with
          |true=>
           go_wp2
           go_quiet (fail)
           go_wp2
           go_quiet (fail)
           go_wp2;go_roundw
           case rel=>
            refine⟨k4+1,true,by omega,by go_num,rfl,⟨_,rfl⟩,?_,?_⟩
            ·have:=s8 H.out.symm
             show true=_;rw[ab.out,jT (by omega)]
            ·intro i hi aw
             by_cases e:i=k4
             ·subst e;exact p.out
             ·exact I.out i hi (by omega)
           case measure=>simp[intOf];omega
          |false=>
           by_cases h6:5<1+ep[j].high
           ·go_wp2
            go_quiet (fail)
            go_wp2
            go_quiet (fail)
            go_wp2;go_roundw
            case rel=>
             refine⟨k4+1,true,by omega,by go_num,by first|rfl|simp[h6],⟨_,rfl⟩,?_,?_⟩
             ·show true=_
              rw[ab.out,jT (by omega)]
             ·intro i hi aw
              by_cases e:i=k4
              ·subst e;exact p.out
              ·exact I.out i hi (by omega)
            case measure=>simp[intOf];omega
           ·go_wp2
            go_quiet (fail)
            go_wp2
            go_quiet (fail)
            go_wp2;go_roundw
            case rel=>
             refine⟨k4+1,false,by omega,by go_num,by first|rfl|simp[h6],⟨_,rfl⟩,?_,?_⟩
             ·have:=Qh H.out.symm
              show false=_;rw[ab.out,m6 (by omega)]
             ·intro i hi aw
              by_cases e:i=k4
              ·subst e;exact p.out
              ·exact I.out i hi (by omega)
            case measure=>simp[intOf];omega
       ·have P:Hid (∀x∈c,jw ep x=true):=by
         intro x hx;obtain⟨j,hj,rfl⟩:=mH hx;exact I.out j hj (by rw[l.out]at hj;omega)
        have aP:Hid (c.take k4=c):=jH (by rw[l.out];omega);rw[aP.out]at H;have ac:Hid (c.length<=16):=by rw[l.out];exact E
        clear I;cases G with
        |true=>
         go_wp2;go_ret2;exact⟨_,_,ep,rfl,.inr ⟨o.out,.inr (.inr (.inr (.inl ⟨A.out,ac.out,P.out,s8 H.out.symm,rfl,rfl,rfl⟩)))⟩,(s B).out⟩
        |false=>
         have ad:Hid (ol ep c<=5):=by have:=Qh H.out.symm;exact Int.not_lt.1 this
         have ax:=x5 a m c0 c (w.drewN B) N.out E ah.out;go_wp2_with fail;refine ax.mono ?_;rintro e w1 ⟨v,rfl,Q,ay⟩;have ae:gS w w1:=(PP (i7 _ _) B).trans ay;obtain⟨L,M,hv⟩:=lf Q;subst hv;have ho:kK (fun k=>w.heap.size<=k/\k<w1.heap.size) w1 (GH (L,M) m (wl c)):=
          ⟨.inr rfl,by show 0<=256;omega,by show(wl c).length=m;rw[(X2 c).length_eq,l.out],E,pT _,by show(0:Int)<=5;omega,lw Q (oY _),fun g hg=>Q.lt g hg⟩
         have az:eU F w1 r ep:=R.out.below ae (fun _ h=>h);have aA:=DN az (GH (L,M) m (wl c)) ho rfl (by show ol ep (wl c)<=5;rw[p4 ep (X2 c)];exact ad.out) (fun e aQ=>by
          have aB:e∈c:=oC aQ;have h1:=P.out e aB;have h2:=ai.out e aB;unfold jw at h1;simp only[uM,rL]at h1;exact⟨h1.1,h2.2⟩)
         have aC:eK 78 #[fj r,.agg #[ed 2,.string ByteArray.empty,.slice L m M,ed 0]] w1 fun e w'=>∃x n,e=.returned (ed x)/\x4 ep n (GH (L,M) m (wl c)) x/\eU (Grow F (fun k=>w.heap.size<=k/\k<w1.heap.size) w1 w') w' r n/\en F w1 w':=aA;clear ax aA Q ho az;go_wp2_with fail;refine aC.mono ?_;rintro e w2 ⟨z,n,rfl,hp,aD,hk2⟩;have aE:Hid (eU (ie F w w2) w2 r n/\en F w w2):=⟨aD.keep (fun k hk=>by
          rcases hk with h|h|h
          ·exact .inl h
          ·exact .inr ⟨h.1,kv h.2 hk2.size⟩
          ·exact .inr ⟨pD ae.size h.1,h.2⟩) (fun _ _=>rfl),hk2.after ae⟩
         have aF:Hid (x4 ep n (GH (L,M) c.length (wl c)) z):=by rw[l.out];exact hp
         clear aC aD hk2 hp ay;by_cases aR:z<0
         ·go_wp2
          go_ret2;exact⟨_,_,n,rfl,.inr ⟨o.out,.inr (.inr (.inr (.inr ⟨A.out,ac.out,P.out,ad.out,_,z,aF.out,.inl ⟨aR,rfl,rfl⟩⟩)))⟩,aE.out⟩
         ·go_wp2
          go_ret2;exact⟨_,_,n,rfl,.inr ⟨o.out,.inr (.inr (.inr (.inr ⟨A.out,ac.out,P.out,ad.out,_,z,aF.out,.inr ⟨by omega,rfl,rfl⟩⟩)))⟩,aE.out⟩
def encI (xs:List Int):fE:=xs.map (Value.int .i64)
def DR (xs:List Bool):fE:=xs.map Value.bool
structure e8 (F:Nat->Prop)(w:World)(W s r:Nat)(ia ka pa:e5)(ic kc pc:Nat)(ids:List Int)(known:List Bool)(paths:List Int)(c5 c6 c7 c8 c9 c10 c11:Value):Prop where
 fw:F W
 hW:w.heap[W]?=some (.cells #[.pointer (some ⟨s,0,none⟩),.pointer (some ⟨r,0,none⟩),.slice ia ids.length ic,.slice ka known.length kc,.slice pa paths.length pc,c5,c6,c7,c8,c9,c10,c11] 71 (0,0))
 jI:w.ownsRow 0 29 1 (.slice ia ids.length ic) ids.length (encI ids)
 mK:w.ownsRow 0 4 1 (.slice ka known.length kc) known.length (DR known)
 ny:w.ownsRow 0 3 1 (.slice pa paths.length pc) paths.length (encI paths)
 fi:∀g,(Value.slice ia ids.length ic).ownBlock=some g->F g
 fk:∀g,(Value.slice ka known.length kc).ownBlock=some g->F g
 fp:∀g,(Value.slice pa paths.length pc).ownBlock=some g->F g
section
variable {F:Nat->Prop}{w:World}{W s r:Nat}{ia ka pa:e5}{ic kc pc:Nat}{ids:List Int}{known:List Bool}{paths:List Int}{c5 c6 c7 c8 c9 c10 c11:Value}
theorem e8.keep(h:e8 F w W s r ia ka pa ic kc pc ids known paths c5 c6 c7 c8 c9 c10 c11)(hF:∀k,F k->F' k)(hk:∀k,F k->w'.heap[k]?=w.heap[k]?):e8 F' w' W s r ia ka pa ic kc pc ids known paths c5 c6 c7 c8 c9 c10 c11:=
 ⟨hF _ h.fw,(hk W h.fw).trans h.hW,eh h.jI (fun g hg=>hk g (h.fi g hg)),eh h.mK (fun g hg=>hk g (h.fk g hg)),eh h.ny (fun g hg=>hk g (h.fp g hg)),fun g hg=>hF g (h.fi g hg),fun g hg=>hF g (h.fk g hg),fun g hg=>hF g (h.fp g hg)⟩
theorem e8.lt(h:e8 F w W s r ia ka pa ic kc pc ids known paths c5 c6 c7 c8 c9 c10 c11):W<w.heap.size:=(lF.1 h.hW).1
theorem e8.below(h:e8 F w W s r ia ka pa ic kc pc ids known paths c5 c6 c7 c8 c9 c10 c11)(a:gS w w'):e8 F w' W s r ia ka pa ic kc pc ids known paths c5 c6 c7 c8 c9 c10 c11:=
 ⟨h.fw,(a.block W h.lt).trans h.hW,eh h.jI (fun g hg=>a.block g (ee h.jI hg)),eh h.mK (fun g hg=>a.block g (ee h.mK hg)),eh h.ny (fun g hg=>a.block g (ee h.ny hg)),h.fi,h.fk,h.fp⟩
theorem e8.c0(h:e8 F w W s r ia ka pa ic kc pc ids known paths c5 c6 c7 c8 c9 c10 c11):w.cell? (eb W 0)=some (fj s):=by simp[World.cell?,h.hW]
theorem e8.c1(h:e8 F w W s r ia ka pa ic kc pc ids known paths c5 c6 c7 c8 c9 c10 c11):w.cell? (eb W 1)=some (fj r):=by simp[World.cell?,h.hW]
theorem e8.c2(h:e8 F w W s r ia ka pa ic kc pc ids known paths c5 c6 c7 c8 c9 c10 c11):w.cell? (eb W 2)=some (.slice ia ids.length ic):=by simp[World.cell?,h.hW]
theorem e8.c3(h:e8 F w W s r ia ka pa ic kc pc ids known paths c5 c6 c7 c8 c9 c10 c11):w.cell? (eb W 3)=some (.slice ka known.length kc):=by simp[World.cell?,h.hW]
theorem e8.c4(h:e8 F w W s r ia ka pa ic kc pc ids known paths c5 c6 c7 c8 c9 c10 c11):w.cell? (eb W 4)=some (.slice pa paths.length pc):=by simp[World.cell?,h.hW]
theorem e8.fz(h:e8 F w W s r ia ka pa ic kc pc ids known paths c5 c6 c7 c8 c9 c10 c11)(i:Nat):w.frozen? (eb W i)=false:=by simp[World.frozen?,h.hW]
theorem row_one(h:w.ownsRow 0 t 1 (.slice a n c) n xs)(hi:xs[i]?=some v):∃g,a=some (eb g 0)/\g<w.heap.size/\w.cell? (eb g i)=some v/\i<n:=by
 have jY:i<n:=by have:=(s6.1 hi).1;have:=h.1;omega
 obtain⟨g,cap,hv⟩:=ej h (by omega);have b:=(kW hv).1;subst b;refine⟨g,rfl,ee h rfl,?_,jY⟩
 have:=h.cells (g:=g) rfl i v hi
 rw[lY,PH]at this;exact this
def Cn (ids:List Int)(n:Int):Int:=if 1<=n/\n<=ids.length then ids.getD (n-1).toNat 0 else n
theorem SN(h:e8 F w W s r ia ka pa ic kc pc ids known paths c5 c6 c7 c8 c9 c10 c11)(n:Int)(d:ids.length<=400):
  eK 39 #[fj W,ed n] w (tz (ed (Cn ids n)) w):=by
 have e:=h.c2;have f:=h.lt;by_cases h1:1<=n
 ·by_cases h2:n<=(ids.length:Int)
  ·obtain⟨j,hj⟩:∃j:Nat,n=(j:Int)+1:=⟨(n-1).toNat,by omega⟩
   subst hj;have b:j<ids.length:=by omega
   obtain⟨g,rfl,k,c,_⟩:=row_one h.jI (i:=j) (v:=.int .i64 ids[j]) (by simp[encI,gJ b]);have a:Hid (Cn ids ((j:Int)+1)=ids[j]):=by
    show _=_;unfold Cn;rw[fY ⟨h1,h2⟩,show((j:Int)+1-1).toNat=j by omega];simp[b]
   have a1:(j:Int)+1-1=j:=by omega
   have a2:(j:Int)<ids.length:=by omega
   clear h;go_enter func39,ntmps39;go_wp2;go_ret;exact⟨by rw[a.out];rfl,rfl⟩
  ·have a:Hid (Cn ids n=n):=by show _=_;unfold Cn;rw[eJ (fun h=>h2 h.2)]
   have l:decide (n<=(ids.length:Int))=false:=m6 h2;clear h;go_enter func39,ntmps39;go_wp2;go_ret;exact⟨by rw[a.out];rfl,rfl⟩
 ·have a:Hid (Cn ids n=n):=by show _=_;unfold Cn;rw[eJ (fun h=>h1 h.1)]
  have m:decide (1<=n)=false:=m6 h1;clear h;go_enter func39,ntmps39;go_wp2;go_ret;exact⟨by rw[a.out];rfl,rfl⟩
def placeOf (ids:List Int)(id:Int):Option Nat:=if 0<id then ids.findIdx? (fun x=>x==id)else none
theorem qP(h:e8 F w W s r ia ka pa ic kc pc ids known paths c5 c6 c7 c8 c9 c10 c11)(id:Int)(n:ids.length<=400):
  eK 41 #[fj W,ed id] w (tz (ed (Cl (placeOf ids id))) w):=by
 have o:=h.c2;have p:=h.lt;have l:Hid (w.ownsRow 0 29 1 (.slice ia ids.length ic) ids.length (encI ids)):=h.jI;clear h;go_enter func41,ntmps41;go_wp2
 go_loopw [5] (fun i wr=>∃k:Nat,k<=ids.length/\i=.int .i64 k/\wr=w/\Hid (∀j (hj:j<ids.length),j<k->0<id->(ids[j]==id)=false)) (fun i _=>ids.length-(intOf i).toNat)
 case atStart=>exact⟨0,oY _,rfl,rfl,fun j hj h=>by omega⟩
 case round=>
  obtain⟨k,hk,rfl,rfl,a⟩:=hrel;by_cases d:k<ids.length
  ·obtain⟨g,rfl,q,c,_⟩:=row_one l.out (i:=k) (v:=.int .i64 ids[k]) (by simp[encI,gJ d])
   cases f:(ids[k]==id) with
   |true=>
    have b:Hid ((ids[k]==id)=true):=f;by_cases hp:0<id
    ·go_wp2
     go_ret;refine⟨?_,rfl⟩;have e:placeOf ids id=some k:=by
      unfold placeOf;rw[fY hp];exact wX.2 ⟨d,b.out,fun j hj=>by have:=a.out j (by omega) hj hp;simp[this]⟩
     rw[e];rfl
    ·have t:decide (0<id)=false:=m6 hp
     go_wp2;go_roundw
     case rel=>exact⟨k+1,by omega,by go_num,by trivial,fun j hj m h0=>absurd h0 hp⟩
     case measure=>simp[intOf];omega
   |false=>
    have b:Hid ((ids[k]==id)=false):=f;go_wp2;go_roundw
    case rel=>
     refine⟨k+1,by omega,by go_num,by trivial,fun j hj m h0=>?_⟩;by_cases e:j=k
     ·subst e;exact b.out
     ·exact a.out j hj (by omega) h0
    case measure=>simp[intOf];omega
  ·go_wp2
   go_ret;refine⟨?_,rfl⟩;have e:placeOf ids id=none:=by
    unfold placeOf;split
    ·next hp=>
     refine Qq.2 fun x hx=>?_;obtain⟨j,hj,rfl⟩:=mH hx;exact a.out j hj (by omega) hp
    ·rfl
   rw[e];rfl
theorem AB(at_:Int)(hn:at_<0):eK 42 #[fj W,ed at_] w (tz (ed 0) w):=by
 go_enter func42,ntmps42;go_wp2;go_ret;exact⟨rfl,rfl⟩
theorem NT(h:e8 F w W s r ia ka pa ic kc pc ids known paths c5 c6 c7 c8 c9 c10 c11)(hr:eU G w r ep)(j:Nat)(hj:j<ep.length):
  eK 42 #[fj W,ed (j:Int)] w (tz (.int .i64 ep[j].kind) w):=by
 have c:=h.c1;obtain⟨a,cap,b⟩:=hr;have d:=b.c0;have hm:=b.many;obtain⟨g,rfl,e,c0,_⟩:=iG b.row rfl hj;clear h b;go_enter func42,ntmps42;go_wp2;go_ret;exact⟨rfl,rfl⟩
end
theorem hE{P:Program}{ops:Array Oper}{rest:List Oper}{o:Oper}{a:Act}{g:Exit->Act->World->Prop}(k:o.guard=none)(s x:Operand)(t:fL)
  (ho:o.op=.call { callee:=.builtin .append,args:=#[s,x],argTypes:=#[t,t] })
  (base:Nat)(e:fL)(i:TypeInfo)(z:Value)(size bytes:Nat)(ht:P.underlying t=some (.slice e))(hi:P.info? e=some i)(l:i.zero=some z)
  (p:i.size=size)(q:i.bytes=bytes)(r:z.cells.size=size)(u:0<size)
  (v:Value)(n:Nat)(xs:fE)(hs:a.eval s=v)(y:w.ownsRow base e size v n xs)
  (f:Addr)(m c:Nat)(news:fE)(hx:a.eval x=.slice (some f) m c)(hl:news.length=m*size)(A:∀j d,news[j]?=some d->w.cell? (f.add j)=some d)(h1:∀d∈news,d.oneCell'=true)
  (B:n+m<=maxLen)(C:(n+m)*bytes<=140737488355328)(D:base<=w.heap.size)
  (h:∀b w',w'.ownsRow base e size b (n+m) (xs++news)->w.grownBy w' v.ownBlock->(b.ownBlock=v.ownBlock\/b.ownBlock=some w.heap.size)->wpList P ops g rest (a.put o.dst b) w'):wpList P ops g (o::rest) a w:=by
 obtain⟨b,w',E,F,G,_,H⟩:=run_append_own_at (P:=P) w base t o.type e i z size bytes ht hi l p q r u v n xs y f m c news hl A h1 B C D;refine Ki k fun _ I=>?_;unfold Oper.wp;simp[execOp,ho,resolve,invoke,builtin,hs,hx,E,Result.andThen];exact I _ _ (h b w' F G H)
theorem kw{w c w2:World}{W i:Nat}{size n m:Nat}(hW:w.heap[W]?=some (.cells cs T (0,0)))(row:w.ownsRow 0 t size (.slice a n cap) n xs)(j:T≠t)
  (kb:∀q,q<w.heap.size->c.heap[q]?=w.heap[q]?)(KE:w.heap.size<=c.heap.size)(hq:c.os=w.os/\c.tape=w.tape/\c.output=w.output)(l:w2.ownsRow 0 t size (.slice (some (eb g 0)) (n+m) cap') (n+m) (xs++news))
  (hg:c.grownBy w2 (Value.slice a n cap).ownBlock)(d:(Value.slice (some (eb g 0)) (n+m) cap').ownBlock=(Value.slice a n cap).ownBlock\/(Value.slice (some (eb g 0)) (n+m) cap').ownBlock=some b)(y:w.heap.size<=b):
  (w2.setCell (eb W i) (.slice (some (eb g 0)) (n+m) cap')).heap[W]?=some (.cells (cs.setIfInBounds i (.slice (some (eb g 0)) (n+m) cap')) T (0,0))/\(w2.setCell (eb W i) (.slice (some (eb g 0)) (n+m) cap')).ownsRow 0 t size (.slice (some (eb g 0)) (n+m) cap') (n+m) (xs++news)/\
    ((some g:Option Nat)=(Value.slice a n cap).ownBlock\/w.heap.size<=g)/\en (fun k=>k=W\/some k=(Value.slice a n cap).ownBlock) w (w2.setCell (eb W i) (.slice (some (eb g 0)) (n+m) cap')):=by
 have o:W<w.heap.size:=(lF.1 hW).1;have M2:some W≠(Value.slice a n cap).ownBlock:=eI row hW j;have f:∀k,k<w.heap.size->some k≠(Value.slice a n cap).ownBlock->w2.heap[k]?=w.heap[k]?:=by
  intro k hk hne;rw[hg.block k (by omega) hne,kb k hk]
 have p:w2.heap[W]?=some (.cells cs T (0,0)):=by rw[f W o M2,hW]
 have s:g≠W:=by
  rintro rfl;rcases d with h1|h1
  ·exact M2 h1
  ·simp[Value.ownBlock]at h1;omega
 have hs:=hg.size;refine⟨?_,?_,?_,⟨hg.os.trans hq.1,hg.tape.trans hq.2.1,hg.output.trans hq.2.2,by simp;omega,?_⟩⟩
 ·simp[World.setCell,xE,p]
 ·obtain⟨h1,h2⟩:=l
  refine⟨h1,?_⟩;rcases h2 with⟨h,_⟩|⟨z,A,u,hv,v,x,r⟩
  ·cases h
  ·cases hv
   exact Or.inr ⟨g,cap',u,rfl,v,by rw[ij _ _ _ _ s];exact x,r⟩
 ·rcases d with h|h
  ·exact Or.inl h
  ·simp[Value.ownBlock]at h;exact Or.inr (by omega)
 ·intro k hk hne
  rw[ij _ _ _ _ (fun e=>hne (.inl e)),f k hk (fun e=>hne (.inr e))]
theorem ma{b c:Nat}{t t':fL}{z d n e:Nat}{v a:Value}{xs f:fE}(h:w.ownsRow b t z v n xs)(h':w.ownsRow c t' d a e f)(ht:t≠t')(hg:v.ownBlock=some g):some g≠a.ownBlock:=by
 obtain⟨i,hc⟩:=p3 h hg;exact eI h' hc ht
theorem QP{W:Nat}(h:w.ownsRow b t z v n xs)(hk:en (fun k=>k=W\/some k=own) w w')(hW:w.heap[W]?=some (.cells cs T (0,0)))(a:T≠t)(ho:∀g,v.ownBlock=some g->some g≠own):w'.ownsRow b t z v n xs:=by
 refine eh h fun g hg=>hk.block g (ee h hg) ?_;rintro(rfl|e)
 ·exact eI h hW a hg.symm
 ·exact ho g hg e
section
variable {F:Nat->Prop}{w:World}{W s r:Nat}{ia ka pa:e5}{ic kc pc:Nat}{ids:List Int}{known:List Bool}{paths:List Int}{c5 c6 c7 c8 c9 c10 c11:Value}
theorem nK{W:Nat}(h:en (fun k=>k=W\/some k=own) w w')(h1:F W)(h2:∀g,own=some g->F g):en F w w':=
 ⟨h.os,h.tape,h.output,h.size,fun k hk hn=>h.block k hk (by rintro(rfl|e);exact hn h1;exact hn (h2 k e.symm))⟩
theorem tJ(a:w'.ownsRow 0 t z (.slice (some (eb g 0)) n c) n xs)(b:(some g:Option Nat)=own\/w.heap.size<=g)(h2:∀g,own=some g->F g):∀k,(Value.slice (some (eb g 0)) n c).ownBlock=some k->ie F w w' k:=by
 intro k hk;simp only[Value.ownBlock,kE]at hk;subst hk;rcases b with e|e
 ·exact .inl (h2 _ e.symm)
 ·exact .inr ⟨e,ee a rfl⟩
theorem e8.Si(h:e8 F w W s r ia ka pa ic kc pc ids known paths c5 c6 c7 c8 c9 c10 c11)
  (p:w'.heap[W]?=some (.cells (Array.setIfInBounds #[fj s,fj r,.slice ia ids.length ic,.slice ka known.length kc,.slice pa paths.length pc,c5,c6,c7,c8,c9,c10,c11] 2 (.slice (some (eb g 0)) (ids.length+1) cap')) 71 (0,0))/\w'.ownsRow 0 29 1 (.slice (some (eb g 0)) (ids.length+1) cap') (ids.length+1) (encI ids++[ed x])/\
    ((some g:Option Nat)=(Value.slice ia ids.length ic).ownBlock\/w.heap.size<=g)/\en (fun k=>k=W\/some k=(Value.slice ia ids.length ic).ownBlock) w w'):
  e8 (ie F w w') w' W s r (some (eb g 0)) ka pa cap' kc pc (ids++[x]) known paths c5 c6 c7 c8 c9 c10 c11/\en F w w':=by
 obtain⟨c,b,d,a⟩:=p;have hl:(ids++[x]).length=ids.length+1:=by simp
 refine⟨⟨.inl h.fw,?_,?_,QP h.mK a h.hW (by decide) (fun g hg=>ma h.mK h.jI (by decide) hg),QP h.ny a h.hW (by decide) (fun g hg=>ma h.ny h.jI (by decide) hg),?_,fun g hg=>.inl (h.fk g hg),fun g hg=>.inl (h.fp g hg)⟩,nK a h.fw h.fi⟩
 ·rw[hl];exact c
 ·rw[hl];simpa [encI]using b
 ·rw[hl];exact tJ b d h.fi
theorem e8.Sj(h:e8 F w W s r ia ka pa ic kc pc ids known paths c5 c6 c7 c8 c9 c10 c11){x:Bool}
  (p:w'.heap[W]?=some (.cells (Array.setIfInBounds #[fj s,fj r,.slice ia ids.length ic,.slice ka known.length kc,.slice pa paths.length pc,c5,c6,c7,c8,c9,c10,c11] 3 (.slice (some (eb g 0)) (known.length+1) cap')) 71 (0,0))/\w'.ownsRow 0 4 1 (.slice (some (eb g 0)) (known.length+1) cap') (known.length+1) (DR known++[.bool x])/\
    ((some g:Option Nat)=(Value.slice ka known.length kc).ownBlock\/w.heap.size<=g)/\en (fun k=>k=W\/some k=(Value.slice ka known.length kc).ownBlock) w w'):
  e8 (ie F w w') w' W s r ia (some (eb g 0)) pa ic cap' pc ids (known++[x]) paths c5 c6 c7 c8 c9 c10 c11/\en F w w':=by
 obtain⟨c,b,d,a⟩:=p;have hl:(known++[x]).length=known.length+1:=by simp
 refine⟨⟨.inl h.fw,?_,QP h.jI a h.hW (by decide) (fun g hg=>ma h.jI h.mK (by decide) hg),?_,QP h.ny a h.hW (by decide) (fun g hg=>ma h.ny h.mK (by decide) hg),fun g hg=>.inl (h.fi g hg),?_,fun g hg=>.inl (h.fp g hg)⟩,nK a h.fw h.fk⟩
 ·rw[hl];exact c
 ·rw[hl];simpa [DR]using b
 ·rw[hl];exact tJ b d h.fk
theorem e8.Sk(h:e8 F w W s r ia ka pa ic kc pc ids known paths c5 c6 c7 c8 c9 c10 c11)
  (p:w'.heap[W]?=some (.cells (Array.setIfInBounds #[fj s,fj r,.slice ia ids.length ic,.slice ka known.length kc,.slice pa paths.length pc,c5,c6,c7,c8,c9,c10,c11] 4 (.slice (some (eb g 0)) (paths.length+1) cap')) 71 (0,0))/\w'.ownsRow 0 3 1 (.slice (some (eb g 0)) (paths.length+1) cap') (paths.length+1) (encI paths++[ed x])/\
    ((some g:Option Nat)=(Value.slice pa paths.length pc).ownBlock\/w.heap.size<=g)/\en (fun k=>k=W\/some k=(Value.slice pa paths.length pc).ownBlock) w w'):
  e8 (ie F w w') w' W s r ia ka (some (eb g 0)) ic kc cap' ids known (paths++[x]) c5 c6 c7 c8 c9 c10 c11/\en F w w':=by
 obtain⟨c,b,d,a⟩:=p;have hl:(paths++[x]).length=paths.length+1:=by simp
 refine⟨⟨.inl h.fw,?_,QP h.jI a h.hW (by decide) (fun g hg=>ma h.jI h.ny (by decide) hg),QP h.mK a h.hW (by decide) (fun g hg=>ma h.mK h.ny (by decide) hg),?_,fun g hg=>.inl (h.fi g hg),fun g hg=>.inl (h.fk g hg),?_⟩,nK a h.fw h.fp⟩
 ·rw[hl];exact c
 ·rw[hl];simpa [encI]using b
 ·rw[hl];exact tJ b d h.fp
end
end Go.Proofs.YtlgidcmmgohagaaGreat
