/- A part of the proof. -/
import Derived.Test.YtlgidcmmgohagaaGreatAllM14
import Derived.Deep.RegionHeld3
set_option linter.all false
namespace Go.Proofs.YtlgidcmmgohagaaGreat
open Go.RowKit Go.Sort Go.Shelf Go.Proofs.Tryz
open Go.Value renaming slice->fy,string->fA,pointer->fB,tuple->fC,agg->fD,bool->fE
open Go.Ending renaming returned->fF
open Option renaming some->fh,none->fj
open Bool renaming true->fm,false->fo
open Go renaming World->fq,Value->fu
open List renaming length->fv,reverse->fx
open Go.RowKit renaming Hid->fe
set_option maxRecDepth 100000
set_option maxHeartbeats 0
variable {xs:gX}{a b base c k I n size:Nat}{H s1 s2 s3 Z:fO}{got:List Int}{E src x:fQ}{w J w1 w2 w3:fq}{e t:ni}{M:Lit->Option fu}{X:Obj}{brk:Bool}{v:fu}{g:WG}{D:DataW fu}{f:fQ->Option fu}{L:List (fQ)}{T:gC}{A:List Ob}
variable {b r n cnt s i p:Nat}{D:DataW fu}{f:fQ->Option fu}{src:fQ}{W2 wr:fq}{left:Lit->Bool}{L:List (fQ)}{mv:fu}{B:WB}{A:List Ob}
theorem Yn(l)(a:Nat):(jn l).toList[a]?=if a<5 then fh (hZ<|l.getD a kq)else fj:=by
 by_cases b:a<5;rw[lv b];rcases(show a=0\/a=1\/a=2\/a=3\/a=4 by omega)with rfl|rfl|rfl|rfl|rfl<;>rfl
 rw[km b];exact wA (by show 5<=a;omega)
def QR (p:fQ)(f d:Nat):gX:=((jn p).toList.drop f).take<|Nat.min (5-f) (5-d)
theorem CH(p)(f d):fv (QR p f d)=Nat.min (5-f) (5-d):=by
 grind [jn,QR,kT,rL,HP,ih1]
theorem Yo{src E r:fQ}(c:fv src+fv r<=5)(d:fv E+fv r<=5):
  (jn E).toList.take (fv E)++QR (src++r) (fv src) (fv E)++(jn E).toList.drop (fv E+fv (QR (src++r) (fv src)<|fv E))=(jn<|E++r).toList:=by
 have b:=CH (src++r) (fv src)<|fv E;generalize a:Nat.min (5-fv src) (5-fv E)=k at b;have e:k<=5-fv E:=by rw[<-a];exact ifs _ _
 have f:fv r<=k:=by rw[<-a];exact Nat.le_min.2 ⟨by omega,by omega⟩
 have g:k<=5-fv src:=by rw[<-a];exact ih1 _ _
 refine KT λh=>?_
 grind [Yn,wz,lI,kT,MU,BX,HP,QR,wA]
def BD (d:Nat):Nat:=if d=5 then 0 else d
def slP(b d:Nat)(a:d<=5)(W):(Instr.sliceAt 147 (ii b) (fh<|fY (d:Int)) fj fj).run prog W=.ok (my b (BD d) (5-d)<|5-d) W:=by
 rcases(show d=0\/d=1\/d=2\/d=3\/d=4\/d=5 by omega)with rfl|rfl|rfl|rfl|rfl|rfl<;>kernel_rfl
theorem Yp{src E r:fQ}(a:fv src+fv r<=5)(b:fv E+fv r<=5):
  (jn E).toList.take (BD<|fv E)++QR (src++r) (fv src) (fv E)++(jn E).toList.drop (BD (fv E)+fv (QR (src++r) (fv src)<|fv E))=(jn<|E++r).toList:=by
 unfold BD;by_cases c:fv E=5
 grind [DX,QR,CH,ifs]
 grind [Yo]
def four (w:fq)(p src E:fQ):fq:=(((w.alloc<|.cells (jn p) 147).alloc<|.cells (jn src) 147).alloc<|.cells (jn E) 147).alloc<|.cells (jn []) 147
def JU(w)(p src E):(four w p src E).heap.size=w.heap.size+4:=by unfold four;simp only[zu]
def SZ(w)(p src E):ju w (four w p src E):=by
 exact((((mi w.heap.size w).alloc (lw _) _).alloc (by simp) _).alloc (by simp;omega) _).alloc (by simp;omega) _
theorem VD(w)(p src E):(four w p src E).heap[w.heap.size]?=fh (.cells (jn p) 147 (0,0))/\(four w p src E).heap[w.heap.size+2]?=fh (.cells (jn E) 147 (0,0))/\(four w p src E).heap[w.heap.size+3]?=fh (.cells (jn []) 147 (0,0)):=by
 grind [four,World.alloc,Array.getElem?_push_lt,Array.getElem_push_lt,Array.getElem_push_eq]
theorem Ta{w W}{src E r:fQ}(i:fv src+fv r<=5)(j:fv E+fv r<=5)(c:Below (four w (src++r) src E).heap.size (four w (src++r) src E) W):
  ∃w3,(∀e,(Builtin.copy_ #[131,131] e #[my (w.heap.size+2) (BD<|fv E) (5-fv E)<|5-fv E,my w.heap.size (BD<|fv src) (5-fv src)<|5-fv src]).run prog W=.ok (goInt<|Nat.min (5-fv src) (5-fv E)) w3)/\ju w w3/\w.heap.size+3<w3.heap.size/\
   w3.heap[w.heap.size+2]?=fh (.cells (jn<|E++r) 147 (0,0))/\w3.heap[w.heap.size+3]?=fh (.cells (jn []) 147 (0,0)):=by
 have u:=JU w (src++r) src E;obtain⟨d,k,l⟩:=VD w (src++r) src E;have N:W.heap[w.heap.size]?=_:=(c.block _<|by omega).trans d;have f:W.heap[w.heap.size+2]?=_:=(c.block _<|by omega).trans k;have x:W.heap[w.heap.size+3]?=_:=(c.block _<|by omega).trans l;have m:=CH (src++r) (fv src)<|fv E;have n:=Yp i j;have y:(jn E).size=5:=fX;have o:BD (fv E)+fv (QR (src++r) (fv src)<|fv E)<=(jn E).size:=by
  grind [ifs,BD]
 have p:∀v∈QR (src++r) (fv src) (fv E),v.oneCell'=fm:=λv a=>by
  unfold QR at a
  have:=Ws<|Aw a
  simp only[jn,oc,List.not_mem_nil,or_false]at this;rcases this with rfl|rfl|rfl|rfl|rfl<;>rfl
 have q:∀b v,(QR (src++r) (fv src)<|fv E)[b]?=fh v->W.cell? (((ie w.heap.size<|BD (fv src)):Addr).add b)=fh v:=λb v a=>by
  have g:b<Nat.min (5-fv src) (5-fv E):=by rw[<-m];exact(wI.1 a).1
  have z:b<5-fv src:=nz g<|ih1 _ _;unfold QR at a;rw[MU g,Wq]at a;have s:BD (fv src)=fv src:=km (by omega);rw[s];have t:((ie w.heap.size<|fv src):Addr).add b=(ie w.heap.size<|fv src+b):=by
   unfold Addr.add;by_cases d:b=0;subst d;rfl;rw[km d]
  rw[t];simp only[World.cell?,N];rw[Wp]at a;exact a
 have h:=λe=>qZ (P:=prog) W 131 131 e 9 1 (w.heap.size+2) (BD<|fv E) (5-fv E) (5-fv E) (ie w.heap.size<|BD (fv src)) (5-fv src) (5-fv src) (jn E) 147 (QR (src++r) (fv src)<|fv E) underlying131 (by kernel_rfl) f (by omega) q o p;rw[n]at h;refine⟨_,h,?_,?_,?_,?_⟩;exact below_setRow ((SZ w (src++r) src E).trans<|c.mono (by omega)) (by omega) _
 grind [size_setRow]
 exact KX W _ _ _ _ _ f
 grind [EJ]
def ug{H s1 s2 s3 Z:fu}(a:w.heap[b]?=fh (.cells #[H,s1,s2,s3,Z] t (0,0))):b<w.heap.size/\w.c b 0=fh H/\w.c b 1=fh s1/\w.c b 2=fh s2/\w.c b 3=fh s3/\w.c b 4=fh Z/\(∀c,w.frozen? (ie b c)=fo):=
 ⟨(lH.1 a).1,by simp[World.cell?,a],by simp[World.cell?,a],by simp[World.cell?,a],by simp[World.cell?,a],by simp[World.cell?,a],λc=>by simp[World.frozen?,a]⟩
theorem Yq(src E r:(List ByteArray))(c:Good src)(d:Good E)(m:fv src+fv r<=5)(n:fv E+fv r<=5)(w:fq):
  Calls prog 197 #[ln<|src++r,ln src,ln E] w λe J=>e=fF (ln<|E++r)/\Below w.heap.size w J:=by
 have f:=λW=>nN E d.val d.len W;have g:=λW=>nN src c.val c.len W;have b:=λW=>Ta (w:=w) (W:=W) m n;have i:=λW=>slP (w.heap.size+2) (fv E) d.len W;have j:=λW=>slP w.heap.size (fv src) c.len W;have h:=JU w (src++r) src E;have k:=VD w (src++r) src E;unfold four at b h k;obtain⟨o,p,q,s,t,u⟩:=sk<|src++r;obtain⟨H,s1,s2,s3,Z,x⟩:=sk src;obtain⟨d0,d1,d2,d3,d4,y⟩:=sk E;obtain⟨N,O,P,Q,R,z⟩:=sk<|E++r;have A:jn [] = #[fA ⟨#[]⟩,fA ⟨#[]⟩,fA ⟨#[]⟩,fA ⟨#[]⟩,fA ⟨#[]⟩]:=fX;unfold ln at f g |-;simp only[u,x,y,z,A] at f g b k h |-;generalize BD (fv E)=od at i b;generalize BD (fv src)=ai at j b;generalize 5-fv E=aj at i b;generalize 5-fv src=Y at j b;generalize (fv E:Int)=nd at f i;generalize (fv src:Int)=M at g j;have B:fe _:=b;clear u x y z A b k m n c d;go_enter func197,ntmps197;go_wp2;have a:=io<|Below.refl ((((w.alloc<|.cells #[fA o,fA p,fA q,fA s,fA t] 147).alloc<|.cells #[fA H,fA s1,fA s2,fA s3,fA Z] 147).alloc<|.cells #[fA d0,fA d1,fA d2,fA d3,fA d4] 147).alloc<|.cells #[fA ⟨#[]⟩,fA ⟨#[]⟩,fA ⟨#[]⟩,fA ⟨#[]⟩,fA ⟨#[]⟩] 147).heap.size ((((w.alloc<|.cells #[fA o,fA p,fA q,fA s,fA t] 147).alloc<|.cells #[fA H,fA s1,fA s2,fA s3,fA Z] 147).alloc<|.cells #[fA d0,fA d1,fA d2,fA d3,fA d4] 147).alloc<|.cells #[fA ⟨#[]⟩,fA ⟨#[]⟩,fA ⟨#[]⟩,fA ⟨#[]⟩,fA ⟨#[]⟩] 147);have C:fe _:=(Nat.lt_of_lt_of_eq (Nat.lt_succ_self<|w.heap.size+3) h.symm);clear h
 go_region_with (first
  | (go_at_call_of 142 (Value.agg #[fA d0,fA d1,fA d2,fA d3,fA d4]);refine (f _).via λw1 l=>?_;replace a:=gS a l;have S:=(kw a).1;have T:=Nat.lt_of_lt_of_le C a.size;obtain⟨w3,U,D,V,c2,c3⟩:=B _ a;obtain⟨X,aa,ab,ac,ad,ae,af⟩:=ug c2;obtain⟨ag,F,G,I,K,L,ah⟩:=ug c3;clear c2 c3)
  | (go_at_call_of 142 (Value.agg #[fA H,fA s1,fA s2,fA s3,fA Z]);refine (g _).via λw1 l=>?_;replace a:=gS a l;have S:=(kw a).1;have T:=Nat.lt_of_lt_of_le C a.size;obtain⟨w3,U,D,V,c2,c3⟩:=B _ a;obtain⟨X,aa,ab,ac,ad,ae,af⟩:=ug c2;obtain⟨ag,F,G,I,K,L,ah⟩:=ug c3;clear c2 c3))
 all_goals
  go_wp2;exact bodyPost_ret (v:=fD #[fA N,fA O,fA P,fA Q,fA R]) (by simp[results,results197,go_sem,Nat.add_assoc,F,G,I,K,L]) fX ⟨fX,by
   repeat (refine Below.setCell ?_ (by simp;omega) _)
   exact D⟩
def ld1{p:Prop}(a:fe p):p:=a
def qG (L:List (fQ)):gX:=L.flatMap λp=>(jn p).toList
theorem Tb(L:List (fQ))(p:fQ):qG (L++[p])=qG L++(jn p).toList:=by simp[qG]
theorem Pa:∀(L:List (fQ))(k a:Nat)(b:k<fv L),a<5->(qG L)[k*5+a]?=(jn L[k]).toList[a]?
 |x::r,0,a,b,c=>by
  grind [jn,qG,wz]
 |x::r,k+1,a,b,c=>by
  show((jn x).toList++qG r)[(k+1)*5+a]?=_
  rw[BX (by simp[jn];omega)]
  have e:(k+1)*5+a-(jn x).toList.length=k*5+a:=by simp[jn];omega
  rw[e,Pa r k a (by grind) c]
  rfl
theorem acp{base g n h}(e:w.ownsRow base 147 5 (my g 0 n h) n (qG L))(f:k<fv L)(a:jn L[k]=(ml H s1 s2 s3 Z)):
  g<w.heap.size/\w.c g (k*5)=fh (hZ H)/\w.c g (k*5+1)=fh (hZ s1)/\w.c g (k*5+2)=fh (hZ s2)/\w.c g (k*5+3)=fh (hZ s3)/\w.c g (k*5+4)=fh (hZ Z):=by
 obtain⟨q,⟨i,_⟩|⟨r,s,t,j,_,l,u,_,v,m⟩⟩:=e;cases i;cases j;have b:∀c d,c<5->(jn L[k]).toList[c]?=fh d->w.c g (k*5+c)=fh d:=by
  intro c d o p;rw[<-Pa L k c f o,<-m]at p
  grind [World.cell?]
 refine⟨(lH.1 l).1,b 0 _ (by omega) (by rw[a];rfl),b 1 _ (by omega) (by rw[a];rfl),b 2 _ (by omega) (by rw[a];rfl),b 3 _ (by omega) (by rw[a];rfl),b 4 _ (by omega) (by rw[a];rfl)⟩
def Nil:(prog.info? 147).map (λi=>(i.zero,i.size,i.bytes))=fh (fh<|fD (ml kq kq kq kq kq),5,80):=by kernel_rfl
theorem came(c:∀a,WideAt.IsKeyLit a->∀z,D.atKey a z=((M a).map DataW.held).getD z)(i:∀p,Good p->M (qm prog p)=f p)(g:∀a,WideAt.IsKeyLit a->M a≠fj->∃p,Good p/\a=qm prog p)
  {x}{a:Lit}{y:DataW fu}(d:keyOf prog 147 x=fh a)(j:∀z,D.atKey a z=y):∃p,Good p/\a=qm prog p/\x=fD (jn p)/\f p≠fj:=by
 have b:=yT.key d;have h:M a≠fj:=by
  intro k;have l:=c a b<|.held (fY 0);have m:=c a b<|.held (fY 1)
  grind
 obtain⟨p,e,rfl⟩:=g a b h;refine⟨p,e,fX,yT.inj d<|nt e.val,?_⟩
 all_goals grind
theorem Yr(b:w.ownsRow base e size v n xs):∃a c,v=fy a n c:=by
 rcases b.2 with⟨d,f⟩|⟨g,_⟩
 all_goals grind
theorem Tc{src E p}(h:jT w3 b n (carried f src E L))(o:n<maxLen)(BB:∀x,E <+: x->f x=fj)(q:∀x∈L,src <+: x/\f x≠fj)(i:Good p)(r:src <+: p)(d:f p=fh v)(s:p∉L)(u:Good (vU src E p))
  (g:prog.underlying t=fh (.map 147 e)){z:fu}(w:∀j,(zeroValue e).run prog j=.ok z j)(k:ni):
  (Instr.lookup t (.map<|fh b) (fD<|jn p) fo).run prog w3=.ok v w3/\
  ∃a c,(Instr.mapUpdate t (.map<|fh b) (fD<|jn (vU src E p)) v).run prog w3=.ok () a/\(Builtin.delete_ #[t,147] k #[.map<|fh b,fD<|jn p]).run prog a=.ok (fC #[]) c/\
   jT c b n (carried f src E<|L++[p])/\w3.grownBy a (fh b)/\a.grownBy c (fh b)/\a.heap.size=w3.heap.size/\c.heap.size=w3.heap.size:=by
 have⟨c1,c2⟩:=LO BB q r (by rw[d];simp) s;have l:=h.look g (w w3) i;rw[c1,d,jI]at l;have⟨a,y,A,B,m⟩:=h.store u o g v;have H:p≠vU src E p:=λe=>by
  have:=BB p (by rw[e];exact qD _ _)
  rw[d]at this;cases this
 have⟨c,C,D,F,G⟩:=A.aah g i (by grind [kh]) k;refine⟨l,a,c,y,C,D.congr λx _=>?_,B,F,m,by rw[G,m]⟩
 grind
def LQ(a):(zeroValue 219).run prog a=.ok (fB fj) a:=by kernel_rfl
def hih(H s1 s2 s3 Z)(w:fq)
  (b:∀a,(Op.equalIn 10000 147 (fD<|ml H s1 s2 s3 Z)<|fD (ml H s1 s2 s3 Z)).run prog a=.ok fm a):
  ik 140 #[fD<|ml H s1 s2 s3 Z,fD<|ml H s1 s2 s3 Z] w (vd (fE fo) w):=by
 go_enter func140,ntmps140;go_wp2
 go_region
 all_goals
  go_wp2;go_ret;exact⟨fX,io<|((mi _ _).alloc (lw _) _).alloc (by simp) _⟩
theorem hii(H s1 s2 s3 Z c f g h i k l m n o)(d:Int)(b:Bool)(w:fq)
  (u:∀a,(Op.equalIn 10000 147 (fD<|ml H s1 s2 s3 Z)<|fD (ml c f g h i)).run prog a=.ok fo a)
  (q:∀a,ik 142 #[fD<|ml c f g h i] a<|vd (fY d) a)
  (r:∀a,ik 188 #[fD<|ml H s1 s2 s3 Z,fY d] a<|vd (fD<|ml k l m n o) a)
  (v:∀a,(Op.equalIn 10000 147 (fD<|ml k l m n o)<|fD (ml c f g h i)).run prog a=.ok b a):
  ik 140 #[fD<|ml H s1 s2 s3 Z,fD<|ml c f g h i] w (vd (fE b) w):=by
 go_enter func140,ntmps140;go_wp2
 go_region_with(first
  |(go_at_call 142;refine(q _).mono ?_;rintro e w1 ⟨rfl,j⟩;obtain⟨x,y⟩:=kw j;obtain⟨z,A⟩:=uL j;have s:ju w w1:=gS (io<|((mi _ _).alloc (lw _) _).alloc (by simp) _) j)
  |(go_at_call 188;refine(r _).mono ?_;rintro e w2 ⟨rfl,p⟩;obtain⟨B,C⟩:=kw p;have t:=gS s p))
 all_goals
  go_wp2;go_ret;exact⟨fX,t⟩
theorem JV(l m)(c:Good l)(d:Good m)(w:fq):ik 140 #[ln l,ln m] w (vd (fE<|decide (m <+: l/\l≠m)) w):=by
 by_cases b:l=m;subst b;rw[yv λb=>b.2 fX];have f:∀a,(Op.equalIn 10000 147 (ln l)<|ln l).run prog a=.ok fm a:=λa=>by
  have:=ir c c a
  rw[iE fX]at this;exact this
 exact hih _ _ _ _ _ w f;have f:∀a,(Op.equalIn 10000 147 (ln l)<|ln m).run prog a=.ok fo a:=λa=>by
  have:=ir c d a
  rw[yv b]at this;exact this
 have g:=λa=>nN m d.val d.len a;have h:=λa=>OC l c.len (fv m) d.len a;have i:=λa=>ir (c.take<|fv m) d a;have j:decide (m <+: l/\l≠m)=decide (l.take (fv m)=m):=by
  refine decide_eq_decide.2 ⟨λb=>(List.prefix_iff_eq_take.1 b.1).symm,λe=>⟨?_,b⟩⟩;rw[<-e];exact List.take_prefix _ _
 rw[j];exact hii _ _ _ _ _ _ _ _ _ _ _ _ _ _ _ _ _ w f g h i
theorem LR(src)(c:∀a,WideAt.IsKeyLit a->∀z,D.atKey a z=((M a).map DataW.held).getD z)(d:∀p,Good p->M (qm prog p)=f p):uQ f src (Maps.has D) []:=by
 refine⟨List.nodup_nil,λx=>⟨λe=>(by cases e),λ⟨b,_,h,g⟩=>?_⟩⟩;rw[Fh<|c _ (Vw b),d x b]at g
 all_goals simp_all
def Pb(w:fq)(a):w.heap.size<=(w.alloc a).heap.size:=by simp
theorem Old(w:fq)(c0 c1 c2 c3 c4:fu)(t:ni):∀b c,[c0,c1,c2,c3,c4][b]?=fh c->(w.k #[c0,c1,c2,c3,c4] t).cell? (((ie w.heap.size 0):Addr).add b)=fh c:=by
 intro b c a
 match b,a with
 |0,a=>simpa [Addr.add]using a
 |1,a=>simpa [Addr.add]using a
 |2,a=>simpa [Addr.add]using a
 |3,a=>simpa [Addr.add]using a
 |4,a=>simpa [Addr.add]using a
 |b+5,a=>simp at a
theorem Out(w:fq)(a)(c0 c1 c2 c3 c4:fu)(t:ni):∀b c,[c0,c1,c2,c3,c4][b]?=fh c->((w.alloc a).k #[c0,c1,c2,c3,c4] t).cell? (((ie (w.heap.size+1) 0):Addr).add b)=fh c:=by
 have d:=Old (w.alloc a) c0 c1 c2 c3 c4 t
 all_goals simp_all
theorem Pc(H s1 s2 s3 Z):∀a∈[Value.string H,hZ s1,hZ s2,hZ s3,hZ Z],a.oneCell'=fm:=by
 intro a b;simp only[oc,List.not_mem_nil,or_false]at b;rcases b with rfl|rfl|rfl|rfl|rfl<;>rfl
def JW (J:fq)(a b c:Nat)(d e f g h H s1 s2 s3 Z d0 d1 d2 d3 d4:fO):Prop:=J.cell? ⟨a,0,fj⟩=fh (fA d)/\J.cell? ⟨a,1,fj⟩=fh (fA e)/\J.cell? ⟨a,2,fj⟩=fh (fA f)/\J.cell? ⟨a,3,fj⟩=fh (fA g)/\J.cell? ⟨a,4,fj⟩=fh (fA h)/\J.cell? ⟨b,0,fj⟩=fh (fA H)/\J.cell? ⟨b,1,fj⟩=fh (fA s1)/\J.cell? ⟨b,2,fj⟩=fh (fA s2)/\J.cell? ⟨b,3,fj⟩=fh (fA s3)/\J.cell? ⟨b,4,fj⟩=fh (fA Z)/\J.cell? ⟨c,0,fj⟩=fh (fA d0)/\J.cell? ⟨c,1,fj⟩=fh (fA d1)/\J.cell? ⟨c,2,fj⟩=fh (fA d2)/\J.cell? ⟨c,3,fj⟩=fh (fA d3)/\J.cell? ⟨c,4,fj⟩=fh (fA d4)
theorem JW.keep{e f g h i H s1 s2 s3 Z d0 d1 d2 d3 d4}(j:JW w a b c e f g h i H s1 s2 s3 Z d0 d1 d2 d3 d4)(k:∀d,J.c a d=w.c a d)(l:∀d,J.c b d=w.c b d)(m:∀d,J.c c d=w.c c d):JW J a b c e f g h i H s1 s2 s3 Z d0 d1 d2 d3 d4:=by
 unfold JW at j |-
 grind
structure BF (b r n:Nat)(D:DataW Value)(f:fQ->Option Value)(src:fQ)(W2 wr:World)(left:Lit->Bool)(cnt:Nat)(L:List (fQ))(mv:Value):Prop where
 rg:wr.ranges prog 147 jZ b r n D left cnt
 ga:uQ f src left L
 row:wr.ownsRow (r+1) 147 5 mv L.length (qG L)
 gr:W2.grownBy wr none
 sz:r+1<=wr.heap.size
 many:L.length+cnt<=n
theorem Pd(a:w.ownsRow base e size v k xs)(d:c<base):fh c≠v.ownBlock:=by
 intro e;rcases a.2 with⟨b,_⟩|⟨g,h,f,b,i,_⟩
 all_goals grind [Value.ownBlock,pW]
theorem nT(a:ju w J):w.grownBy J fj:=⟨a.os,a.tape,a.output,a.size,λi U _=>a.block i U⟩
theorem BF.below(a:BF b r n D f src W2 wr left cnt L mv)(c:ju wr J):BF b r n D f src W2 J left cnt L mv:=
 ⟨a.rg.kept (nT c) (by simp)<|by simp,a.ga,gg a.row λg d=>c.block g<|gc a.row d,a.gr.andThen (nT c) (λh e=>by cases e),ww a.sz c.size,a.many⟩
theorem BF.box(e:BF b r n D f src W2 wr left cnt L mv)(g:c<W2.heap.size)(d):wr.c c d=W2.c c d:=wJ (a:=(ie c d))<|e.gr.block c g (by simp)
theorem BF.next(a:BF b r n D f src W2 wr left cnt L mv){j}{p}(hbr:b<r)(u:W2.heap.size<=r)(hrg:w1.ranges prog 147 jZ b r n D (λz=>left z&&!z.sameKey (qm prog p)) j)(E:j<cnt)(k:wr.grownBy w1 (fh r))(v:Good p)(A:left (qm prog p)=fm)(B:f p≠fj):
  (¬src <+: p->BF b r n D f src W2 w1 (λz=>left z&&!z.sameKey (qm prog p)) j L mv)/\
  (src <+: p->w1.ownsRow (r+1) 147 5 mv (fv L) (qG L)/\r+1<=w1.heap.size/\fv L+1<=n/\∀w2 w3 l,ju w1 w2->w3.ownsRow (r+1) 147 5 l (fv L+1) (qG L++(jn p).toList)->w2.grownBy w3 mv.ownBlock->BF b r n D f src W2 w3 (λz=>left z&&!z.sameKey (qm prog p)) j (L++[p]) l):=by
 have w:w1.ownsRow (r+1) 147 5 mv (fv L) (qG L):=gg a.row (λg x=>k.block g (gc a.row x) (λe=>by
  have:=Pd a.row (c:=r)<|by omega
  exact this (by rw[x,e])))
 have y:W2.grownBy w1 fj:=a.gr.andThen k (λd i=>by cases i;exact .inl u);have m:=ww a.sz k.size;have F:=a.many;refine⟨λo=>⟨hrg,Iu a.ga v o,w,y,m,by omega⟩,λo=>⟨w,m,by omega,λw2 w3 l q G s=>?_⟩⟩;have H:=a.rg.owns.lt;have t:fh b≠mv.ownBlock/\fh r≠mv.ownBlock/\∀d,mv.ownBlock=fh d->r+1<=d:=by
  rcases a.row.2 with⟨C,_⟩|⟨g,h,I,C,J,_⟩
  all_goals grind [Value.ownBlock,pW]
 refine⟨(hrg.kept (nT q) (by simp)<|by simp).kept s t.1 t.2.1,LP a.ga v o B A,?_,?_,?_,?_⟩
 ·all_goals grind [lI,Tb]
 exact(y.andThen (nT q) λd i=>by cases i).andThen s λd i=>.inl<|ww (ww u<|Ha _) (t.2.2 d i);exact ww m<|ww q.size s.size;simp;omega
theorem Td(d:Below (w2.alloc X).drew.heap.size (w2.alloc X).drew w3)(f:a<w2.heap.size)(g:c<w2.heap.size):
  (∀b,w3.c w2.heap.size b=(w2.alloc X).drew.c w2.heap.size b)/\(∀b,w3.c a b=(w2.alloc X).drew.c a b)/\(∀b,w3.c c b=(w2.alloc X).drew.c c b)/\w2.heap.size<w3.heap.size:=by
 have e:w2.heap.size<(w2.alloc X).drew.heap.size:=by simp
 exact⟨λb=>(kw d).1 _ b e,λb=>(kw d).1 _ b<|Nc f e,λb=>(kw d).1 _ b<|Nc g e,nz e d.size⟩
theorem Te{W2 w2 w3 k d:fq}{b r:Nat}{l:iD}{n m}(hbr:b<r)(u:W2.grownBy w2 (fh b))(i:w2.ownsRow (r+1) 147 5 (fy l m n) m xs)(v:r+1<=w2.heap.size)(f:ju w2 w3)(h:w3.grownBy k (fh b))(j:k.grownBy d (fh b)):
  W2.grownBy d (fh b)/\d.ownsRow (r+1) 147 5 (fy l m n) m xs/\r+1<=d.heap.size:=by
 refine⟨((u.andThen (nT f) λo a=>by cases a).andThen h λo a=>.inr (by rw[a])).andThen j λo a=>.inr (by rw[a]),gg i λg p=>?_,ww v<|ww f.size (ww h.size j.size)⟩;have q:=gc i p;have s:fh g≠fh b:=λe=>Pd i (c:=b) (by omega) (by rw[p,e]);have t:=nz q f.size;rw[j.block g (nz t h.size) s,h.block g t s,f.block g q]
theorem Dr(b n)(f:fQ->Option fu)(src E)(w)(hij:Good src)(hdG:Good E)(hP:jT w b n f)(hn:n<1099511627776)
  (BB:∀x,E <+: x->f x=fj)(hlen:∀x,src <+: x->f x≠fj->fv E+(fv x-fv src)<=5)(hf:∀x,f x≠fj->Good x):
  (ik 144 #[.map<|fh b,fD<|jn src,fD<|jn E] w λe J=>e=qr #[]/\jT J b n (PQ f src E)/\w.grownBy J (fh b))/\ik 145 #[.map<|fh b,fD<|jn src,fD<|jn E] w λe J=>e=qr #[]/\jT J b n (PQ f src E)/\w.grownBy J (fh b):=by
 have⟨i0,U,iz0,iz1,iz2⟩:=kM Nil;have hbl:=hP.lt;have HPM:fe _:=hP;have⟨M,⟨D,hD,hM⟩,h1,h2⟩:=hP;have lem:=λp(hp:Good p)W=>JV p src hp hij W;have heq:=λp(hp:Good p)W=>ir hp hij W;have hil:=λr(h1:fv src+fv r<=5)(h2:fv E+fv r<=5)W=>Yq src E r hij hdG h1 h2 W;have⟨H,s1,s2,s3,Z,hS⟩:=sk src;have⟨d0,d1,d2,d3,d4,hDp⟩:=sk E;unfold ln at lem heq hil;rw[hS]at lem heq hil;rw[hDp]at hil;rw[hS,hDp];have HO:fe _:=pC (J:=(w.k (ml H s1 s2 s3 Z) 147).k (ml d0 d1 d2 d3 d4) 147) hD<|(((mi w.heap.size w).alloc (lw _) _).alloc (by simp) _).block b hbl;have HM:fe _:=And.intro hM<|And.intro h1 h2;have Pos:fe _:=lem;have HEQ:fe _:=heq;have Ptr:fe _:=hil;have PId:fe _:=BB;have HLEN:fe _:=hlen;have HF:fe _:=hf;have HG:fe _:=And.intro hij hdG;have HS:fe _:=And.intro hS hDp;clear hD hM h1 h2 lem heq hil BB hlen hf hij hdG hS hDp;constructor
 case' left=>have HU:fe _:=underlying161;have HZ:fe _:=LQ
 case' right=>have HU:fe _:=underlying162;have HZ:fe _:=CC
 all_goals
  first|go_enter func144,ntmps144|go_enter func145,ntmps145
  go_wp2_with(at_range;(first|refine wpList_range_own _ fX _ 161 fX 147 219 yT underlying161 jZ b n D fX HO.o ?_|refine wpList_range_own _ fX _ 162 fX 147 55 yT underlying162 jZ b n D fX HO.o ?_);intro w0 hrg0 hg0 hs0)
  go_frame
  have hWs:((w.k (ml H s1 s2 s3 Z) 147).k (ml d0 d1 d2 d3 d4) 147).heap.size=w.heap.size+2:=by simp
  have hmD:=World.ownsMap.size_le HO.o;generalize hr:((w.k (ml H s1 s2 s3 Z) 147).k (ml d0 d1 d2 d3 d4) 147).heap.size=r at hrg0 hs0 |-;have hbr:b<r:=by omega
  have hr0:w.heap.size<r:=by omega
  have hr1:w.heap.size+1<r:=by omega
  have HR2:fe (((w.k (ml H s1 s2 s3 Z) 147).k (ml d0 d1 d2 d3 d4) 147).heap.size<=r/\w.heap.size<((w.k (ml H s1 s2 s3 Z) 147).k (ml d0 d1 d2 d3 d4) 147).heap.size/\w.heap.size+1<((w.k (ml H s1 s2 s3 Z) 147).k (ml d0 d1 d2 d3 d4) 147).heap.size):=⟨EL hr,by omega,by omega⟩;have HST:fe (BF b r n D f src ((w.k (ml H s1 s2 s3 Z) 147).k (ml d0 d1 d2 d3 d4) 147) w0 (Maps.has D) (Maps.size D) []<|fy fj 0 0):=⟨hrg0,LR src HM.o.1 HM.o.2.1,jY _ _ _ _,hg0,by rw[hs0];exact lw _,by simpa using hmD⟩;clear hrg0 hg0 hs0 hr hWs hmD
  go_loopw [6] (λmv wr=>∃left cnt L,fe<|BF b r n D f src ((w.k (ml H s1 s2 s3 Z) 147).k (ml d0 d1 d2 d3 d4) 147) wr left cnt L mv) (λ_ wr=>wr.rangeLeft b r)
  case atStart=>exact⟨Maps.has D,Maps.size D,[],HST.o⟩
  case round=>
   have⟨left,cnt,L,Rf⟩:=hrel;obtain⟨la,lc,rfl⟩:=Yr Rf.o.row;go_wp2_with(at_next;apply ld1);show wpList _ _ _ _ _ _;refine wpList_next_ranges _ fX (.tmp 11) fX 147 yT jZ (λx:fu=>x) (λx:fu=>x) (λkey kl _=>⟨key,fX⟩) (λv y _=>⟨v,fX⟩) b r n D left cnt fX Rf.o.rg ?_ ?_
   ·intro hc0 hl0
    have tFn:fe (∀x,x∈L↔(src <+: x/\f x≠fj)):=λx=>(Rf.o.ga.2 x).trans ⟨λh=>⟨h.2.1,h.2.2.1⟩,λh=>⟨HF.o x h.2,h.1,h.2,hl0 _⟩⟩;have Raw:fe L.Nodup:=Rf.o.ga.1;clear hl0 hc0;have Rcc:fe (jT wr b n<|carried f src E []):=jT.congr ⟨M,⟨D,Rf.o.rg.owns,HM.o.1⟩,HM.o.2.1,HM.o.2.2⟩ λx _=>(OX f src E x).symm;have hLn:fv L<=n:=by have:=Rf.o.many;omega
    have Ys:fe (wr.ownsRow (r+1) 147 5 (fy la (fv L) lc) (fv L)<|qG L):=Rf.o.row;have HGR:fe _:=World.grownBy.but Rf.o.gr<|fh b;have acw:=Rf.o.sz;go_wp2
    go_loopw [30] (λi w2=>∃k:Nat,k<=fv L/\i=.int .i64 (k:Int)/\fe (jT w2 b n<|carried f src E (L.take k))/\fe (((w.k (ml H s1 s2 s3 Z) 147).k (ml d0 d1 d2 d3 d4) 147).grownBy w2<|fh b)/\fe (w2.ownsRow (r+1) 147 5 (fy la (fv L) lc) (fv L)<|qG L)/\r+1<=w2.heap.size) (λi _=>fv L-(intOf i).toNat)
    case atStart=>exact⟨0,Fr _,rfl,Rcc.o,HGR.o,Ys.o,acw⟩
    case round=>
     obtain⟨k,hk,rfl,HPK,HGK,HRK,acz⟩:=hrel;by_cases hkl:k<fv L
     ·have⟨g,c',hsl⟩:=hh HRK.o (by omega)
      cases hsl;have Tf:=kK hkl;have⟨hs,hfp⟩:=(tFn.o L[k]).1 Tf;have hp:=HF.o _ hfp;have uby:L[k]∉L.take k:=by
       intro hin;have⟨j,hj,hje⟩:=rI hin;rw[kT]at hj;rw[List.getElem_take]at hje;exact Rh.1 Raw.o j k (by omega) hkl (by omega) hje
      have htk:L.take (k+1)=L.take k++[L[k]]:=vv hkl;have hLk:∀x∈L.take k,src <+: x/\f x≠fj:=λx hx=>(tFn.o x).1<|Aw hx;have⟨p0,p1,p2,p3,p4,hPp⟩:=sk L[k];have⟨hgl,e0,e1,e2,e3,e4⟩:=acp HRK.o hkl hPp;generalize L[k]=p at Tf hs hfp hp uby htk hPp;cases hv:f p with
      |none=>exact absurd hv hfp
      |some v=>
       have hsr:=OY hs;have hl5:=HLEN.o p hs hfp;have hp5:=hp.len;have hd5:fv src+fv (p.drop<|fv src)<=5:=by rw[rL];have:=hs.length_le;omega
       have hmv:=Ptr.o (p.drop<|fv src) hd5 (by rw[rL];exact hl5);rw[hsr,hPp]at hmv;have hqG:Good (vU src E p):=⟨HG.o.2.val.append λx hx=>hp.val x<|Ws hx,by unfold vU;rw[lI,rL];exact hl5⟩;have hturn:=λW(hP:jT W b n (carried f src E<|L.take k))=>Tc hP (by unfold maxLen;omega) PId.o hLk hp hs hv uby hqG HU.o HZ.o 0
       change ∀W,ik 197 _ W λe J=>e=fF (fD<|jn (vU src E p))/\_ at hmv
       have⟨q0,q1,q2,q3,q4,hPq⟩:=sk<|vU src E p;rw[hPq]at hmv;simp only[hPp,hPq]at hturn;have Rci:fe _:=hturn;have hb0:ju wr (wr.k (ml p0 p1 p2 p3 p4) 147).drew:=io<|(mi _ _).alloc (lw _) _;have hl0:=(hturn _<|HPK.o.keep (hb0.block b<|by omega)).1;have kS:=λo=>(ko HGK.o (c:=w.heap.size) HR2.o.2.1 (by omega) o);have kD:=λo=>(ko HGK.o (c:=w.heap.size+1) HR2.o.2.2 (by omega) o);have hz0:w.heap.size<wr.heap.size:=by omega
       have hz1:w.heap.size+1<wr.heap.size:=(by omega);have hbz:b<wr.heap.size:=by omega
       have hnb:wr.heap.size≠b:=(by omega);have acD:w.heap.size≠b:=by omega
       have acE:w.heap.size+1≠b:=(by omega);have HTK:fe _:=htk;have HB0:fe _:=hb0;clear hturn hb0 Tf hs hfp hp uby htk hPp hv hsr hl5 hp5 hd5 hqG hPq hLk;clear HO HM Pos HEQ Ptr HLEN HF HG HS HPM Raw Rcc Ys HGR HST U iz0 iz1 iz2;go_wp2;clear e0 e1 e2 e3 e4;have hSD:JW (wr.k (ml p0 p1 p2 p3 p4) 147).drew wr.heap.size w.heap.size (w.heap.size+1) p0 p1 p2 p3 p4 H s1 s2 s3 Z d0 d1 d2 d3 d4:=by
        unfold JW;have q0:=Nat.ne_of_lt hz0;have q1:=Nat.ne_of_lt hz1;simp[st2,hz0,hz1,kS,kD]
       go_region_held3 (λJ=>J.c wr.heap.size 0=fh (hZ p0)/\J.c wr.heap.size 1=fh (hZ p1)/\J.c wr.heap.size 2=fh (hZ p2)/\J.c wr.heap.size 3=fh (hZ p3)/\J.c wr.heap.size 4=fh (hZ p4)/\J.c w.heap.size 0=fh (hZ H)/\J.c w.heap.size 1=fh (hZ s1)/\J.c w.heap.size 2=fh (hZ s2)/\J.c w.heap.size 3=fh (hZ s3)/\J.c w.heap.size 4=fh (hZ Z)/\J.c (w.heap.size+1) 0=fh (hZ d0)/\J.c (w.heap.size+1) 1=fh (hZ d1)/\J.c (w.heap.size+1) 2=fh (hZ d2)/\J.c (w.heap.size+1) 3=fh (hZ d3)/\J.c (w.heap.size+1) 4=fh (hZ d4)) (first|exact hSD|exact hS3|exact hS4) (first|(go_at_call 197;refine(hmv _).via λw3 hb3=>?_;have⟨m1,m2,m3,m4⟩:=Td hb3 hz0 hz1;have hS3:=hSD.keep m1 m2 m3;have udp:=gS HB0.o hb3;have⟨hl3,w4,w5,adH,adI,hP5,hg4,hg5,hs4,hs5⟩:=Rci.o w3<|HPK.o.keep (udp.block b hbz);have hS4:=hS3.keep (ko hg4 m4 hnb) (ko hg4 (Nc hz0 m4) acD)<|ko hg4 (Nc hz1 m4) acE;have HE:fe _:=Te hbr HGK.o HRK.o acz udp hg4 hg5;have HP5:fe _:=hP5;have hz4:wr.heap.size<w4.heap.size:=nz m4<|EL hs4.symm;clear hg4 hg5 hs4 hs5 hP5 udp m1 m2 m3 hb3))
       all_goals
        go_wp2;go_roundw
        case rel=>exact⟨k+1,by omega,by go_num,by rw[HTK.o];exact HP5.o,HE.o.1,HE.o.2.1,HE.o.2.2⟩
        case measure=>simp[intOf];omega
     have hke:k=fv L:=(by omega);subst hke;rw[sL]at HPK;go_wp2;go_end0;refine⟨fX,HPK.o.congr λx _=>OZ PId.o tFn.o x,?_⟩;exact(World.grownBy.but (nT<|((mi w.heap.size w).alloc (lw _) _).alloc (by simp) _)<|fh b).andThen HGK.o λj hj=>.inr (by rw[hj])
   intro x c kl y w1 cnt1 hkey hlk hv hat hrg1 hlt hg1 hs1 hen;obtain⟨p,hp,rfl,rfl,hfp⟩:=came HM.o.1 HM.o.2.1 HM.o.2.2 hkey hat;have⟨p0,p1,p2,p3,p4,hPp⟩:=sk p;have hbp:=Pos.o p hp;have hep:∀W,(Op.equalIn 10000 147 (fD<|jn p)<|fD (ml H s1 s2 s3 Z)).run prog W=.ok (decide (p=src)) W:=HEQ.o p hp;have⟨hno,Rco⟩:=Rf.o.next hbr HR2.o.1 hrg1 hlt hg1 hp hlk hfp;have kS:=λo=>(ko hg1 (c:=w.heap.size) (nz hr0<|Nat.le_of_succ_le Rf.o.sz) (by omega) o).trans<|Rf.o.box HR2.o.2.1 o
   have hz1:w.heap.size<w1.heap.size:=by rw[hs1];exact nz hr0<|Nat.le_of_succ_le Rf.o.sz
   have HLT:fe (cnt1<cnt):=hlt;have afp:fe _:=hrg1;rw[hPp]at hbp hep hen |-;have HPp:fe _:=hPp;have HNO:fe _:=hno;have RcM:fe _:=Rco;clear hno Rco hkey hlk hv hat hrg1 hlt hg1 hs1 hfp hPp;by_cases hs:src <+: p
   ·by_cases he:p=src
    ·rw[iE he]at hep
     clear hbp;have⟨y1,y2,y3,y4⟩:=RcM.o hs;have hW:ju w1 (w1.k (ml p0 p1 p2 p3 p4) 147):=(mi _ _).alloc (lw _) _;have Ys:fe _:=y1.alloc<|.cells (ml p0 p1 p2 p3 p4) 147;have HSZ:fe _:=ww y2 hW.size;have Pe:fe _:=y4;have HW:fe _:=hW;have h63:fv L+1<=maxLen:=by unfold maxLen;omega
     have hby:(fv L+1)*80<=140737488355328:=(by omega);clear y1 y2 y4 hW;go_wp2_with(at_builtin;go_loud(apply clz _ fX (.tmp 24) (.tmp 26) 289 fX (r+1) 147 i0 _ 5 80 underlying289 U iz0 iz1 iz2 fX (by decide) (fy la (fv L) lc) (fv L) (qG L) fX (rJ Ys.o _) (ie (w1.heap.size+1) 0) 1 1 [hZ p0,hZ p1,hZ p2,hZ p3,hZ p4] fX fX (Out w1 _ _ _ _ _ _ 147) (Pc _ _ _ _ _) h63 hby<|ww HSZ.o (Pb _ _);intro v' w3 hown' hgrow _ hloc;obtain⟨g',cap',rfl⟩:=hh hown'<|Nat.succ_pos _;have uid:fe _:=hown';have him:fe _:=hgrow;clear hown' hgrow hloc));have Pf:fe (BF b r n D f src _ w3 _ cnt1 (L++[p]) _):=Pe.o _ w3 _ (HW.o.alloc HW.o.size<|.cells (ml p0 p1 p2 p3 p4) 147) (by rw[HPp.o];exact uid.o) him.o;go_roundw
     case rel=>exact⟨_,_,_,Pf.o⟩
     case measure=>rw[Pf.o.rg.left_eq,Rf.o.rg.left_eq];exact HLT.o
    rw[yv he]at hep;rw[iE ⟨hs,he⟩]at hbp;have⟨y1,y2,y3,y4⟩:=RcM.o hs;have Pe:fe _:=y4;have h63:fv L+1<=maxLen:=by unfold maxLen;omega
    have hby:(fv L+1)*80<=140737488355328:=(by omega);clear y4;have hz2:w.heap.size<(w1.k (ml p0 p1 p2 p3 p4) 147).heap.size:=by simp;omega
    have hz3:w1.heap.size<(w1.k (ml p0 p1 p2 p3 p4) 147).heap.size:=(by simp);go_wp2_with(first
     |(go_at_call 140;refine Hk (hbp _) λw2 hb2=>?_;have k2:=λo=>(kw hb2).1 w1.heap.size o hz3;have hz4:=nz hz3 hb2.size;have hW:=gS ((mi w1.heap.size w1).alloc (lw _) _) hb2;have Ys:fe (w2.ownsRow (r+1) 147 5 (fy la (fv L) lc) (fv L)<|qG L):=gg y1 λg hg=>hW.block g<|gc y1 hg;have HSZ:fe (r+1<=w2.heap.size):=ww y2 hW.size;have HW:fe _:=hW;clear hW)
     |(at_builtin;go_loud(apply clz _ fX (.tmp 24) (.tmp 26) 289 fX (r+1) 147 i0 _ 5 80 underlying289 U iz0 iz1 iz2 fX (by decide) (fy la (fv L) lc) (fv L) (qG L) fX (rJ Ys.o _) (ie w2.heap.size 0) 1 1 [hZ p0,hZ p1,hZ p2,hZ p3,hZ p4] fX fX (Old w2 _ _ _ _ _ 147) (Pc _ _ _ _ _) h63 hby<|ww HSZ.o (Pb _ _);intro v' w3 hown' hgrow _ hloc;obtain⟨g',cap',rfl⟩:=hh hown'<|Nat.succ_pos _;have uid:fe _:=hown';have him:fe _:=hgrow;clear hown' hgrow hloc)))
    have Pf:fe (BF b r n D f src _ w3 _ cnt1 (L++[p]) _):=Pe.o _ w3 _ (HW.o.alloc HW.o.size<|.cells (ml p0 p1 p2 p3 p4) 147) (by rw[HPp.o];exact uid.o) him.o;go_roundw
    case rel=>exact⟨_,_,_,Pf.o⟩
    case measure=>rw[Pf.o.rg.left_eq,Rf.o.rg.left_eq];exact HLT.o
   have he:p≠src:=λe=>hs<|e▸sQ _;rw[yv he]at hep;rw[yv λh=>hs h.1]at hbp;go_wp2_with(go_at_call 140;refine Hk (hbp _) λw2 hb2=>?_);have Pf:fe _:=(HNO.o hs).below<|gS ((mi _ _).alloc (lw _) _) hb2;go_roundw
   case rel=>exact⟨_,_,L,Pf.o⟩
   case measure=>rw[(BF.rg Pf.o).left_eq,Rf.o.rg.left_eq];exact HLT.o
theorem jq.gy{s p}(c:jq T w s p A got brk I):∀b∈A,0<=b.high/\b.high<=5:=by
 obtain⟨_,f,_,⟨a,h,g,j,k,l,i⟩,_⟩:=c;intro b d;rcases i.zx b d with⟨_,e,_⟩|⟨_,_,_,_,e,m,_⟩
 all_goals omega
theorem Yt{s p}(d:jq T w s p A got brk I){id:Int}(e:fJ A id≠0):
  ik 173 #[ii p,fY id] w (vd (fY<|gp A id) w):=by
 have⟨j,k⟩:=Bt e;obtain⟨b,rfl⟩:∃b:Nat,id=(b:Int)+1:=⟨(id-1).toNat,by omega⟩;have c:b<fv A:=by omega
 have⟨_,l,_,⟨a,h,f,g,m,n,i⟩,_⟩:=d;rw[Cl c];exact IZ p a (fv A) h f g A b c w i.gQ
theorem Gb(b:∀a∈A,0<=a.high/\a.high<=5)(id:Int):0<=gp A id/\gp A id<=5:=by
 unfold gp;cases c:A[(id-1).toNat]? with
 |none=>exact⟨wE _,by decide⟩
 |some a=>exact b a<|cls c
def BG{b:Type}(f:b->Int)(l:List b)(a:Int):a<=l.foldl (λc x=>max c<|1+f x) a:=((iq f l a _).1<|wE _).1
theorem yy(a:∀d∈A,0<=d.high/\d.high<=5):∀(n:Nat)(c:LT),0<=kO A n c/\kO A n c<=5+n
 |n,.file id=>by
  have:=Gb a id
  grind [kO,gp]
 |n,.held f=>by
  grind [kO]
 |n,.dir id=>by
  have:=Gb a id
  grind [kO,gp]
 |0,.own b=>by
  grind [kO]
 |n+1,.own b=>by
  rw[kO]
  refine⟨BG _ b 0,(iq (λx=>kO A n x.2) b 0 _).2 ⟨by omega,λx _=>?_⟩⟩
  have:=yy a n x.2
  omega
theorem hir{t:LT}{b}{a:Kids}(d:t.at A b=fh (.own a))(e:fP a){x:fO×LT}(f:x∈a):t.at A (b++[x.1])=fh x.2:=by
 rw[lx,d,wy,lh];show(jp a x.1).bind _=_;cases g:jp a x.1 with
 |none=>
  grind [jp,cat,hOr,absurd]
 |some c=>
  grind [nJ,pd]
def Em (A:List Ob)(n:Nat)(a:Kids):Int:=a.foldl (λb x=>max b<|1+kO A n x.2) 0
def Yu(A)(n)(a:Kids)(x:fO×LT):Em A n (a++[x])=max (Em A n a) (1+kO A n x.2):=by
 simp only[Em,cmd,HV,List.foldl_nil]
theorem Tg(c:∀b∈A,0<=b.high/\b.high<=5)(n)(a):0<=Em A n a/\Em A n a<=6+n:=by
 refine⟨BG _ a 0,(iq (λx=>kO A n x.2) a 0 _).2 ⟨by omega,λx _=>?_⟩⟩
 have:=yy c n x.2
 omega
theorem Iw(t p:Nat)(H s1 s2 s3 Z c)(k id d:Int)(w:fq)(i:t<w.heap.size)(c0:w.c t 0=fh (ii p))(hid:id≠0)
  (e:∀a,ju w a->ik 173 #[ii p,fY id] a (vd (fY d) a)):
  ik 143 #[ii t,fD<|ml H s1 s2 s3 Z,fD #[hZ c,fY k,fY id]] w (vd (fY d) w):=by
 have b:=io<|((mi w.heap.size w).alloc (lw _) (.cells (ml H s1 s2 s3 Z) 147)).alloc (by simp) (.cells #[hZ c,fY k,fY id] 96);have f:=e _ b;have g:fe _:=b;have j:(id==0)=fo:=by simpa using hid
 clear e b;go_enter func143,ntmps143;go_wp2
 go_region_with(go_at_call 173;refine f.via λw1 h=>?_)
 all_goals
  go_wp2;go_ret;exact⟨fX,gS g.o h⟩
theorem xF(t m:Nat)(H s1 s2 s3 Z c)(k:Int)(w:fq)(g:t<w.heap.size)(h:w.c t 8=fh (.map<|fh m))
  (d:∀a,ju w a->(Instr.lookup 162 (.map<|fh m) (fD<|ml H s1 s2 s3 Z) fo).run prog a=.ok (fy fj 0 0) a):
  ik 143 #[ii t,fD<|ml H s1 s2 s3 Z,fD #[hZ c,fY k,fY 0]] w (vd (fY 0) w):=by
 have b:=io<|((mi w.heap.size w).alloc (lw _) (.cells (ml H s1 s2 s3 Z) 147)).alloc (by simp) (.cells #[hZ c,fY k,fY 0] 96);have j:=d _ b;have e:fe _:=b;clear d b;go_enter func143,ntmps143;go_wp2
 go_region
 all_goals
  go_wp2
  go_loopw [7,27] (λt i wr=>i=.int .i64 0/\t=.int .i64 0/\ju w wr) (λ_ _ _=>0)
  case atStart=>exact⟨rfl,rfl,e.o⟩
  case round=>
   obtain⟨rfl,rfl,f⟩:=hrel;go_wp2;go_ret;exact⟨fX,f⟩
theorem Th{wr w1:fq}(c:Below (wr.alloc X).drew.heap.size (wr.alloc X).drew w1):
  (∀b,w1.c wr.heap.size b=(wr.alloc X).drew.c wr.heap.size b)/\wr.heap.size<w1.heap.size/\∀n a,n<=wr.heap.size->Below n a (wr.alloc X).drew->Below n a w1:=by
 have d:wr.heap.size<(wr.alloc X).drew.heap.size:=by simp
 exact⟨λb=>(kw c).1 wr.heap.size b d,nz d c.size,λn a f e=>e.trans<|c.mono (by omega)⟩
theorem Ti(t m g h n:Nat)(A:List Ob)(H s1 s2 s3 Z l)(y:fQ)(k:Int)(a:Kids)(w:fq)(ap:t<w.heap.size)(o:g<w.heap.size)(aq:w.c t 8=fh (.map<|fh m))
  (I:∀d,ju w d->(Instr.lookup 162 (.map<|fh m) (fD<|ml H s1 s2 s3 Z) fo).run prog d=.ok (my g 0 (fv a) h) d)
  (ar:fv a<=16)(hn5:n<=5)(J:∀K L,(flat<|a.map lL)[K]?=fh L->w.c g K=fh L)(z:∀q∈A,0<=q.high/\q.high<=5)
  (M:∀(x:fO)d,x∈a.map (·.1)->ik 196 #[fD<|ml H s1 s2 s3 Z,hZ x] d (vd (fD<|jn (y++[x])) d))
  (N:∀x∈a,∀d,ju w d->ik 143 #[ii t,fD<|jn (y++[x.1]),fD #[hZ x.1,fY x.2.kind,fY x.2.id]] d (vd (fY<|kO A n x.2) d)):
  ik 143 #[ii t,fD<|ml H s1 s2 s3 Z,fD #[hZ l,fY k,fY 0]] w (vd (fY<|Em A n a) w):=by
 have B:=io<|((mi w.heap.size w).alloc (lw _) (.cells (ml H s1 s2 s3 Z) 147)).alloc (by simp) (.cells #[hZ l,fY k,fY 0] 96);have au:=I _ B;have ab:fe _:=B;have ac:fe _:=J;have ad:fe _:=M;have ae:fe _:=N;have af:fe _:=λag:Kids=>Tg z n ag;have ah:fe _:=λc:LT=>yy z n c;clear I B J M N z;go_enter func143,ntmps143;go_wp2
 go_region
 all_goals
  go_wp2
  go_loopw [7,27] (λt i wr=>∃b:Nat,b<=fv a/\i=.int .i64 b/\t=.int .i64 (Em A n<|a.take b)/\ju w wr/\Below (w.heap.size+2) ((w.k (ml H s1 s2 s3 Z) 147).k #[hZ l,fY k,fY 0] 96).drew wr) (λ_ i _=>fv a-(intOf i).toNat)
  case atStart=>exact⟨0,Fr _,rfl,rfl,ab.o,mi _ _⟩
  case round=>
   obtain⟨b,av,rfl,rfl,j,C⟩:=hrel;by_cases D:b<fv a
   ·have ai:b<fv (a.map lL):=by rw[oL];exact D
    obtain⟨d0,d1,d2⟩:=zS ac.o ai;rw[yP]at d0 d1 d2;have E:=(j.cell (p:=(ie g<|b*3)) o).trans d0;have r:=(j.cell (p:=(ie g<|b*3+1)) o).trans d1;have s:=(j.cell (p:=(ie g<|b*3+2)) o).trans d2;have aw:g<wr.heap.size:=nz o j.size;have ax:=λq=>C.cell (p:=(ie w.heap.size q)) (by simp);have O:w.heap.size+2<=wr.heap.size:=by have:=C.size;simpa using this
    have ay:w.heap.size<wr.heap.size:=(by omega);have F:=kK D;have u:=λd=>ad.o (a[b]).1 d<|DY F;have f:=ae.o a[b] F;have P:=ah.o (a[b]).2;have Q:=af.o<|a.take b;have v:Em A n (a.take<|b+1)=max (Em A n<|a.take b) (1+kO A n (a[b]).2):=by
     rw[vv D,Yu]
    generalize kO A n (a[b]).2=R at f P v;generalize Em A n (a.take b)=az at Q v |-;have aA:IntKind.i64.wrap (1+R)=1+R:=by rw[zv]<;>omega
    obtain⟨aB,aC⟩:=Q;obtain⟨aD,aE⟩:=P;have aj:fe _:=v;simp only[lL]at E r s;clear d0 d1 d2 v F;generalize a[b]=x at E r s u f;obtain⟨G,S⟩:=x;simp only at E r s u f;generalize S.kind=T at r f;generalize S.id=U at s f;obtain⟨aF,aG,aH,aI,aJ,V⟩:=sk<|y++[G];rw[V]at u f;have ak:fe _:=f;clear f V;have al:ju w (wr.k #[hZ G,fY T,fY U] 96).drew:=io<|j.alloc j.size _;have am:Below (w.heap.size+2) ((w.k (ml H s1 s2 s3 Z) 147).k #[hZ l,fY k,fY 0] 96).drew (wr.k #[hZ G,fY T,fY U] 96).drew:=io<|C.alloc O _;go_wp2
    go_region_with(first
     |(go_at_call 196;refine(u _).mono ?_;rintro e w1 ⟨rfl,W⟩;have X:=gS al W;obtain⟨aK,aL,Y⟩:=Th W;have an:=Y _ _ O am;clear Y)
     |(go_at_call 143;refine(ak.o _ X).mono ?_;rintro e w2 ⟨rfl,aa⟩))
    all_goals
     go_wp2;go_roundw
     case rel=>
      refine⟨b+1,by omega,by go_num,by rw[aj.o],gS X aa,an.trans<|aa.mono (by omega)⟩
     case measure=>simp[intOf];omega
   have ao:b=fv a:=by omega
   subst ao;rw[sL];go_wp2;go_ret;exact⟨fX,j⟩
theorem zY:∀(n m:Nat)(c:LT),n<=m->fM A n c->kO A m c=kO A n c
 |n,m,.file id,_,_=>by cases n<;>cases m<;>rfl
 |n,m,.held f,_,_=>by cases n<;>cases m<;>rfl
 |n,m,.dir id,_,_=>by cases n<;>cases m<;>rfl
 |0,m,.own d,_,b=>by
  rw[fM]at b
  subst b
  cases m<;>rfl
 |n+1,0,.own d,b,_=>by omega
 |n+1,m+1,.own d,b,e=>by
  rw[fM]at e
  rw[kO,kO]
  have h:∀(l:Kids)(a:Int),(∀x∈l,x∈d)->l.foldl (λb x=>max b<|1+kO A m x.2) a=l.foldl (λb x=>max b<|1+kO A n x.2) a:=by
   intro l
   induction l with
   |nil=>intro a _;rfl
   |cons y r i=>
    intro a g;rw[HV,HV,zY n m y.2 (by omega) (e.2.2 y<|g y (by simp)).2]
    grind
  grind
theorem Tj{t}(C:fZ T w s i p B A g I)(hF:Flat A t g.ft):∀(n:Nat)(c:LT)(b:fQ),n<=5->fM A n c->t.at A b=fh c->Good b->fv b+n<=5->∀(h:fO)(a:fq),ju w a->
  ik 143 #[ii B.bt,fD<|jn b,fD #[hZ h,fY c.kind,fY c.id]] a (vd (fY<|kO A n c) a):=by
 have F:∀(a:fq),ju w a->B.bt<a.heap.size/\a.c B.bt 0=fh (ii p)/\a.c B.bt 8=fh (.map<|fh B.oD):=by
  intro a d;have L:=(C.below d).wp.tree.ht;exact⟨(lH.1 L).1,by simp[World.cell?,L,ptr],by simp[World.cell?,L]⟩
 have G:∀(c:LT)(b:fQ)(h:fO)(a:fq),ju w a->fJ A c.id≠0->
   ik 143 #[ii B.bt,fD<|jn b,fD #[hZ h,fY c.kind,fY c.id]] a (vd (fY<|gp A c.id) a):=by
  intro c b h a d P;have⟨q,H,u⟩:=F a d;have hid:c.id≠0:=λe=>by have:=(Bt P).1;omega
  exact Iw B.bt p _ _ _ _ _ h c.kind c.id _ a q H hid λj o=>Yt ((C.below d).below o).st P
 have X:=C.st.gy;have⟨O,Q⟩:=C.wp.qo;have M:∀(b:fQ),Good b->∀(a:fq),ju w a->(Instr.lookup 162 (.map<|fh B.oD) (fD<|jn b) fo).run prog a=.ok (((g.ft.od b).map λ_=>O b).getD<|fy fj 0 0) a:=λb m a d=>Q.look m d;have ah:=C.st.sound;have R:∀(n:Nat)(k:Kids)(b:fQ)(h:fO)(a:fq),ju w a->n<=5->t.at A b=fh (.own k)->Good b->fP k->fv k<=16->(∀x∈k,fv b<=4)->
   (∀x∈k,∀j,ju w j->ik 143 #[ii B.bt,fD<|jn (b++[x.1]),fD #[hZ x.1,fY x.2.kind,fY x.2.id]] j (vd (fY<|kO A n x.2) j))->
   ik 143 #[ii B.bt,fD<|jn b,fD #[hZ h,fY 2,fY 0]] a (vd (fY<|Em A n k) a):=by
  intro n k b h a d N v m ai Y Z aa;have⟨q,H,u⟩:=F a d;have S:g.ft.od b=fh (k.map lL):=by rw[hF.od,v];rfl
  have J:=Q.row b _ S;have D:=λj(o:ju a j)=>M b m j<|gS d o;rw[S,qA,jI]at D;have ab:∀E c,O b=(my E 0 (fv k) c)->ik 143 #[ii B.bt,fD<|jn b,fD #[hZ h,fY 2,fY 0]] a (vd (fY<|Em A n k) a):=by
   intro E c z;rw[z]at D J;have U:E<w.heap.size:=gc J.1 fX;have V:=J.1;rw[oL]at V;refine Ti B.bt B.oD E c n A _ _ _ _ _ h b 2 k a q (nz U d.size) u D Y N (λW ac ad=>?_) X (λx j r=>?_) λx r j o=>aa x r j<|gS d o
   have:=ks V W ac ad
   rw[iR]at this;exact(d.cell (p:=(ie E W)) U).trans this;obtain⟨y,K,rfl⟩:=jC.1 r;exact CG b m (Z y K) y.1 j
  rcases J.1.2 with⟨z,r⟩|⟨aj,ak,al,z,_⟩
  have ae:k=[]:=by
   have af:fv (k.map lL)=0:=by first|exact r|(have:=congrArg List.length r;rw[ly]at this;simpa using this)
   simpa using af
  subst ae;rw[z]at D;exact xF B.bt B.oD _ _ _ _ _ h 2 a q u D;rw[oL]at z;exact ab _ _ z
 intro n
 induction n with
 |zero=>
  intro c b N l v m ag h a d;have⟨q,H,u⟩:=F a d;cases c with
  |file id=>exact G (.file id) b h a d (by rw[fM]at l;show fJ A id≠0;rw[l];decide)
  |dir id=>exact G (.dir id) b h a d (by rw[fM]at l;show fJ A id≠0;rw[l.1];decide)
  |held f=>exact xF B.bt B.oD _ _ _ _ _ h 1 a q u (λj o=>by
    have:=M b m j<|gS d o
    rwa [hF.od,v]at this)
  |own k=>
   rw[fM]at l;subst l;exact R 0 [] b h a d (by omega) v m List.Pairwise.nil (by simp) (by simp)<|by simp
 |succ n am=>
  intro c b N l v m ag h a d;have⟨q,H,u⟩:=F a d;cases c with
  |file id=>exact G (.file id) b h a d (by rw[fM]at l;show fJ A id≠0;rw[l];decide)
  |dir id=>exact G (.dir id) b h a d (by rw[fM]at l;show fJ A id≠0;rw[l.1];decide)
  |held f=>exact xF B.bt B.oD _ _ _ _ _ h 1 a q u (λj o=>by
    have:=M b m j<|gS d o
    rwa [hF.od,v]at this)
  |own k=>
   rw[fM]at l;refine R n k b h a d (by omega) v m l.1 l.2.1 (λ_ _=>by omega) λx r j o=>?_;have an:Good (b++[x.1]):=⟨m.val.append (λy K=>by simp at K;rw[K];exact(l.2.2 x r).1),by simp;omega⟩
   grind [hir]
theorem Tk{a b:Type}(f:fQ->Option a)(m:a->b)(src E x):PQ (λp=>(f p).map m) src E x=(PQ f src E x).map m:=by
 grind [PQ]
theorem xG{a:Type}{f:fQ->Option a}{y:a}(b:PQ f src E x=fh y):(E <+: x/\f (src++x.drop (fv E))=fh y)\/(¬E <+: x/\¬src <+: x/\f x=fh y):=by
 grind [PQ]
theorem Gc{b:Type}{f:fQ->Option b}{y:b}(c:Good E)(d:∀p z,f p=fh z->Good p)(e:∀p z,src <+: p->f p=fh z->fv E+(fv p-fv src)<=5)(g:PQ f src E x=fh y):Good x:=by
 rcases xG g with⟨⟨r,rfl⟩,a⟩|⟨_,_,a⟩
 rw[yQ]at a;have i:=e _ _ (qD _ _) a;refine⟨c.val.append λz h=>(d _ _ a).val z<|Wt _ h,?_⟩
 grind
 grind
theorem JX{d:Nat×Nat->Prop}(a:w.grownBy J (fh b))(f:d (T b)):fI d T T w J:=
 ⟨a.os,a.tape,a.output,a.size,λ_ _=>rfl,λk c g=>a.block k c λe=>g (by cases e;exact f),λh k c=>h k<|ww a.size c⟩
theorem Ix(b:fZ T w s i p B A g I)(j:Good E)(k:∀x f,src <+: x->g.ft.of x=fh f->fv E+(fv x-fv src)<=5)(l:n<=I)(o:jT J B.oF n (PQ (λp=>(g.ft.of p).map ptr) src E))(q:w.grownBy J (fh B.oF)):
  fI (λt=>t=(i,4)) T T w J/\fZ T J s i p B A { g with ft:={ g.ft with of:=PQ g.ft.of src E } } I:=by
 have⟨h,_,r⟩:=b.wp.uf;have m:fI (λt=>t=(i,4)) T T w J:=JX q h;have a:=b.wp;have⟨O,u⟩:=a.qo;refine⟨m,b.two,b.st.moves m (λe=>by cases e) (λe=>by cases e),⟨a.tree.moves m (λe=>by cases e),a.nP.moves m (λe=>by cases e),a.nQ.moves m (λe=>by cases e),⟨h,⟨n,l,o.congr λx _=>Tk _ _ _ _ _⟩,λx f c=>Gc j r k c⟩,⟨O,u.moves m λe=>by cases e⟩,a.files.moves m (λe=>by cases e),λx f c=>?_,a.opens.moves m (λe=>by cases e) (λe=>by cases e),⟨a.ok.root,a.ok.od⟩⟩⟩;rcases xG c with⟨_,d⟩|⟨_,_,d⟩
 exact a.held _ f d;exact a.held _ f d
def Gd (O:fQ->fu)(src E:fQ):fQ->fu:=λx=>if E <+: x then O (src++x.drop (fv E))else O x
theorem LS{O:fQ->fu}(l:fZ T w s i p B A g I)(d:gD T w i B g.ft.od I O)(C:Good E)(D:∀x f,src <+: x->g.ft.od x=fh f->fv E+(fv x-fv src)<=5)(F:n<=I)(G:jT J B.oD n (PQ (λp=>(g.ft.od p).map λ_=>O p) src E))(o:w.grownBy J (fh B.oD)):
  fI (λt=>t=(i,5)) T T w J/\fZ T J s i p B A { g with ft:={ g.ft with od:=PQ g.ft.od src E } } I:=by
 obtain⟨aa,_,H⟩:=d.map;obtain⟨ab,ac,K⟩:=H.isMap;have m:fI (λt=>t=(i,5)) T T w J:=JX o d.tag;have h:∀x a,PQ g.ft.od src E x=fh a->∃y,g.ft.od y=fh a/\Gd O src E x=O y/\((E <+: x/\y=src++x.drop (fv E))\/(¬E <+: x/\¬src <+: x/\y=x)):=by
  intro x a c;rcases xG c with⟨j,b⟩|⟨j,q,b⟩
  exact⟨_,b,by unfold Gd;rw[lv j],.inl ⟨j,fX⟩⟩;exact⟨_,b,by unfold Gd;rw[km j],.inr ⟨j,q,fX⟩⟩
 have L:gD T J i B (PQ g.ft.od src E) I (Gd O src E):=by
  refine⟨d.tag,⟨n,F,G.congr λx _=>?_⟩,λx a c=>?_,λx a c=>?_,λx y u v M c N b k=>?_⟩;unfold PQ Gd
  grind
  have⟨y,b,_,_⟩:=h x a c;exact⟨Gc C (λp z P=>(d.good p z P).1) D c,(d.good y a b).2⟩;obtain⟨y,b,k,_⟩:=h x a c;rw[k];exact(d.row y a b).Bz K o;obtain⟨Q,R,S,U⟩:=h x u c;have⟨V,W,X,Y⟩:=h y v N;rw[S]at b;rw[X]at k;have e:=d.inj Q V u v M R W b k;rcases U with⟨⟨r,rfl⟩,Z⟩|⟨_,q,Z⟩
  ·rcases Y with⟨⟨t,rfl⟩,ad⟩|⟨_,_⟩
   all_goals grind [yQ,Hw,qD]
  all_goals grind
 refine⟨m,l.od m (lw _) L λx a c=>?_⟩;obtain⟨y,b,_⟩:=h x a c;exact l.wp.ok.od y a b
