/- A part of the proof. -/
import Derived.Test.YtlgidcmmgohagaaGreatComM19
import Derived.Test.YtlgidcmmgohagaaGreatComM09
set_option linter.all false
namespace Go.Proofs.YtlgidcmmgohagaaGreat
open Go.RowKit Go.Sort Go.Shelf Go.Proofs.Tryz
open Go.Value renaming slice->fy,string->fA,pointer->fB,tuple->fC,agg->fD,bool->fE
open Go.Ending renaming returned->fF
open Option renaming some->fh,none->fj
open Bool renaming true->fm,false->fo
open Go renaming World->fq,Value->fu
open List renaming length->fv,reverse->fx
open Go.RowKit renaming Hid->fe
set_option maxRecDepth 100000
set_option maxHeartbeats 0
variable {s i p:Nat}{B:WB}{A:List Ob}{Ze:gF}{w0:fq}{g0:WG}{t0:LT}
def lls:(prog.info? 9).map (λi=>(i.zero,i.size,i.bytes))=fh (fh<|hh ByteArray.empty,1,16):=by kernel_rfl
structure xL (w:World)(nb:Nat)(es:List fV)(k:Nat):Prop where
 lt:nb<w.heap.size
 any:∀j,j<es.length->∃x,w.cell? ⟨nb,j,none⟩=some (.string x)
 free:∀o,w.frozen? ⟨nb,o,none⟩=false
 nms:∀j (hj:j<es.length),j<k->w.cell? ⟨nb,j,none⟩=some (.string es[j].1)
 blk:∃cs:Array Value,w.heap[nb]?=some (.cells cs 9 (0,0))/\cs.size=es.length
theorem PI(n:Nat)(d:n<=16)(W):∃cs:Array fu,(Instr.makeSlice 131 (fY (n:Int))<|fY (n:Int)).run prog W=.ok (my W.heap.size 0 n n) (W.k cs 9)/\cs.size=n/\∀a,a<n->∃x,cs[a]?=fh (hh x):=by
 have⟨b,U,c,e,f⟩:=kC lls;refine⟨_,run_make W 131 9 b _ Clz U c .i64 .i64 n n (by omega) (by omega) (by grind)<|by omega,?_,?_⟩
 all_goals grind [madeCells,Value.cells]
theorem VN{w:fq}{cs:Array fu}{es:List fV}(c:cs.size=fv es)(e:∀a,a<fv es->∃x,cs[a]?=fh (hh x)):xL (w.k cs 9) w.heap.size es 0:=by
 have b:=nX w<|.cells cs 9;refine⟨by simp,λa d=>?_,λf=>by simp only[World.frozen?,b];simp,λa _ d=>(by omega),⟨cs,b,c⟩⟩
 all_goals simp_all
theorem Zf{w}{c k}{f}(b:xL w c f k)(d):xL (w.alloc d) c f k:=by
 have g:∀a,(w.alloc d).cell? (ii c a)=w.cell? (ii c a):=λa=>by unfold World.cell?;rw[sG _ _ _ b.lt]
 have h:∀a,(w.alloc d).frozen? (ii c a)=w.frozen? (ii c a):=λa=>by unfold World.frozen?;rw[sG _ _ _ b.lt]
 exact⟨by simp;exact Nat.lt_succ_of_lt b.lt,λa e=>by rw[g];exact b.any a e,λi=>by rw[h];exact b.free i,λa e j=>(by rw[g];exact b.nms a e j),by have⟨cs,l,m⟩:=b.blk;exact⟨cs,(sG _ _ _ b.lt).trans l,m⟩⟩
theorem lop{w}{b k}{c}(d:xL w b c k)(h:k<fv c):xL (w.setCell (ii b k)<|fA c[k].1) b c (k+1):=by
 have⟨x,i⟩:=d.any k h;have n:(w.setCell (ii b k)<|fA c[k].1).cell? (ii b k)=fh (fA c[k].1):=World.cell?_setCell_same _ _ _ i;have g:∀a,a≠k->(w.setCell (ii b k) (fA c[k].1)).cell? (ii b a)=w.cell? (ii b a):=λa f=>rlv _ _ _ _ λe=>f (by grind);refine⟨by simpa using d.lt,λa f=>?_,λj=>by rw[sig];exact d.free j,λa f o=>?_,by have⟨cs,l,m⟩:=d.blk;exact⟨cs.setIfInBounds k<|fA c[k].1,by simp[World.setCell,BV,l],by simpa using m⟩⟩
 ·by_cases e:a=k
  ·all_goals grind
  rw[g a e];exact d.any a f
 by_cases e:a=k
 ·all_goals grind
 rw[g a e];exact d.nms a f<|by omega
theorem TN(t)(l m n o Z)(a:List fV)(r:fq->Prop)(w)(F:fv a<=16)
  (s:∀W,ju w W->ik 131 #[ie t,fD<|ml l m n o Z] W λe H=>∃c h,e=pD #[my c 0 (fv a) h,fY 0]/\r H/\c<H.heap.size/\∀u v,(flat a)[u]?=fh v->H.c c u=fh v):
  ik 127 #[ie t,fD<|ml l m n o Z] w λe H=>∃b,r b/\e=pD #[my b.heap.size 0 (fv a)<|fv a,fY 0]/\ju b H/\xL H b.heap.size a (fv a):=by
 have y:=s _<|(mi w.heap.size w).alloc (lw _) (.cells (ml l m n o Z) 147);have z:fe _:=y;clear s y;go_enter func127,ntmps127;go_wp2_with fail;refine RK z ?_;rintro e b ⟨c,h,rfl,A,g,B⟩;obtain⟨cs,K,C,q⟩:=PI (fv a) F b;have D:=VN (w:=b) C q
 change fe _ at D A B
 clear z q C;go_wp2
 go_loopw [25] (λi wr=>∃k:Nat,k<=fv a/\i=.int .i64 (k:Int)/\ju b wr/\fe (xL wr b.heap.size a k)) (λi _=>fv a-(intOf i).toNat)
 case atStart=>exact⟨0,zt _,rfl,(mi _ _).alloc (lw _) _,D⟩
 case round=>
  obtain⟨k,L,rfl,d,f⟩:=hrel;by_cases j:k<fv a
  ·obtain⟨d0,d1,d2⟩:=zU B j
   have M:=(d.cell (p:=(ii c<|k*3)) g).trans d0;have N:=(d.cell (p:=(ii c<|k*3+1)) g).trans d1;have O:=(d.cell (p:=(ii c<|k*3+2)) g).trans d2;have P:c<wr.heap.size:=np g d.size;have Q:=f.o.lt;obtain⟨x,q⟩:=f.any k j;have R:=f.o.free k;have E:=λG=>Zf (lop f j) G;have I:fe _:=E;clear d0 d1 d2 E;go_wp2;exact⟨⟨k+1,j,by simp,(wB d (show b.heap.size<=((ii b.heap.size k):Addr).block from lw _) _).alloc (by simpa using d.size) _,I _⟩,by simp only[intOf];omega⟩
  have J:k=fv a:=by omega
  subst J;go_wp2;go_ret2;exact⟨b,A,fX,d,f⟩
theorem Zg(t)(b c d f Z)(a:Int)(g:a≠0)(h:fq->Prop)(w)
  (i:∀W,ju w W->ik 131 #[ie t,fD<|ml b c d f Z] W λe H=>∃j,e=pD #[j,fY a]/\h H):
  ik 127 #[ie t,fD<|ml b c d f Z] w λe H=>h H/\e=(pD #[fy fj 0 0,fY a]):=by
 have k:=i _<|(mi w.heap.size w).alloc (lw _) (.cells (ml b c d f Z) 147);have l:fe _:=k;have o:(a==0)=fo:=by simpa using g
 clear i k g;go_enter func127,ntmps127;go_wp2_with fail;refine RK l ?_;rintro e p ⟨j,rfl,m⟩;have n:fe _:=m;clear l m;go_wp2;go_ret2;exact⟨n,fX⟩
theorem Zh(t)(d f g h Z)(j:fq->Prop)(w)
  (k:∀W,ju w W->ik 131 #[ie t,fD<|ml d f g h Z] W λe H=>∃a c,e=pD #[fy a 0 c,fY 0]/\j H):
  ik 127 #[ie t,fD<|ml d f g h Z] w λe H=>∃b,j b/\e=pD #[my b.heap.size 0 0 0,fY 0]/\ju b H/\xL H b.heap.size [] 0:=by
 have l:=k _<|(mi w.heap.size w).alloc (lw _) (.cells (ml d f g h Z) 147);have m:fe _:=l;clear k l;go_enter func127,ntmps127;go_wp2_with fail;refine RK m ?_;rintro e b ⟨a,c,rfl,n⟩;have⟨cs,o,p,q⟩:=PI 0 (by decide) b;have y:(Instr.makeSlice 131 (fY 0)<|fY 0).run prog b=.ok (my b.heap.size 0 0 0) (b.k cs 9):=o;have r:fe _:=VN (w:=b) (es:=[]) p λz s=>absurd s<|Rv _;have u:fe _:=n;clear m n q p o;go_wp2
 go_loopw [25] (λi wr=>i=.int .i64 0/\ju b wr/\fe (xL wr b.heap.size [] 0)) (λ_ _=>0)
 case atStart=>exact⟨rfl,(mi _ _).alloc (lw _) _,r⟩
 case round=>
  obtain⟨rfl,v,x⟩:=hrel;go_wp2;go_ret2;exact⟨b,u,fX,v,x⟩
theorem hkp(c h:Nat)(l)(i:Good l)(j:fu->Int->fq->Prop)(w:fq)(k:c<w.heap.size)(c0:w.c c 0=fh (ie h))
  (g:∀W,ju w W->ik 127 #[ie h,fD<|jn l] W λe H=>∃a b,e=pD #[a,fY b]/\j a b H):
  ik 68 #[ie c,hh<|lA l] w λe H=>∃a b,e=pD #[a,fY b]/\j a b H:=by
 have d:=λW=>kj l i W;obtain⟨p,q,r,s,Z,m⟩:=sf l;unfold ln at d;simp only[m]at d g;have n:fe _:=g;clear g m i;generalize lA l=v at d |-;go_enter func68,ntmps68;go_wp2_with(go_at_call 69;refine Calls.via (d _) λO f=>?_;have d0:=((kw f).1 c 0 k).trans c0;have x:=np k f.size);have o:=n (O.k (ml p q r s Z) 147).drew<|il (f.alloc f.size _);have t:fe _:=o;clear o n
 go_region_with(go_at_call 127;refine RK t ?_;rintro e y ⟨a,b,rfl,u⟩)
 all_goals
  go_wp2;go_ret2;exact⟨a,b,fX,u⟩
end Go.Proofs.YtlgidcmmgohagaaGreat
namespace Go
variable {P:Program}{w:World}
end Go
namespace Go.Proofs.YtlgidcmmgohagaaGreat
open Go.RowKit Go.Sort Go.Shelf Go.ChangeShapes Go.WideShapes Go.Deep Go.Proofs.Tryz
open Go.Value renaming slice->fy,string->fA,pointer->fB,tuple->fC,agg->fD,bool->fE
open Go.Ending renaming returned->fF
open Option renaming some->fh,none->fj
open Bool renaming true->fm,false->fo
open Go renaming World->fq,Value->fu
open List renaming length->fv,reverse->fx
open Go.RowKit renaming Hid->fe
variable {H:Type}{w:fq}{base:Nat}{sp:Nat->Bool}{held:Bool}
section
variable {enc:lV×fu->H}
end
end Go.Proofs.YtlgidcmmgohagaaGreat
namespace Go.Proofs.YtlgidcmmgohagaaGreat
open Go.RowKit Go.Sort Go.Shelf Go.Proofs.Tryz
open Go.Value renaming slice->fy,string->fA,pointer->fB,tuple->fC,agg->fD,bool->fE
open Go.Ending renaming returned->fF
open Option renaming some->fh,none->fj
open Bool renaming true->fm,false->fo
open Go renaming World->fq,Value->fu
open List renaming length->fv,reverse->fx
open Go.RowKit renaming Hid->fe
set_option maxRecDepth 100000
set_option maxHeartbeats 0
variable {s i p I:Nat}{B:WB}{A a b:List Ob}{Ze:gF}{w0 W wr:fq}{g0:WG}{t0 t:LT}{fc tu:jJ}{R:List (fu×List Mb)}{E:List fV}{data:fT}

def uQ (a:List Ob)(fc:jJ)(t:LT)(b:List Ob)(tu:jJ)(c:LT):Prop:=∀x,xc a fc t x=xc b tu c x
def Ac{a}{t}(b:kids a t=fj):jB a t=(5,[]):=by cases t<;>simp[kids,jB]at b |-
def vP{a}{t}{Y:Kids}(b:kids a t=fh Y):jB a t=(0,Y):=by cases t<;>simp[kids,jB]at b |-<;>exact b
theorem vQ{t}{b}(c:(pd a t b).1=0):t.at a (fx b)=fh (pd a t b).2:=by
 rcases AY a (λ_=>kq) t b with⟨_,d⟩|⟨e,_⟩
 all_goals omega
theorem hkt{a}(c:Exact a){n:Nat}{t}{Y:Kids}(b:kids a t=fh Y)(d:∀id,t=.dir id->fK a id=2):kQ a (n+1) t=Y.foldl (λe x=>max e<|1+kQ a n x.2) 0:=by
 cases t with
 |file id=>cases b
 |held f=>cases b
 |own g=>cases b;rw[kQ]
 |dir id=>
  cases b;rw[kQ,c.high id<|d id fX,List.foldl_map]
  grind [gy,wl,ltOf,kQ]
def TP{a}{n}{t}(b:fM a n t):∀id,t=.dir id->fK a id=2:=λid e=>by subst e;rw[fM]at b;exact b.1
theorem hkv{a}(d:Exact a){n m}{t}(b:fM a m t)(c:t.kind≠2):kQ a n t=0:=by
 cases t with
 |file id=>rw[kQ];rw[fM]at b;exact d.low id b
 |held e=>rw[kQ]
 |own f=>exact absurd fX c
 |dir id=>exact absurd fX c
theorem Zi(x:fT):xc a fc (.own []) x=if x=[]then fh .dir else fj:=by
 rcases x with _|⟨n,b⟩
 rw[px];rfl;rw[ui,km<|by simp];rfl
theorem Gs{t}{b}:(jl a t b).1≠14:=by
 unfold jl;simp only;rcases AY a (λ_=>kq) t b with⟨c,_⟩|⟨c,_⟩
 all_goals grind [wS,pd]
theorem uR{t}{r}(b:(jl a t r).1=0):∃d,t.at a (fx r)=fh d/\kids a d=fh (jl a t r).2:=by
 have:=LZ (A:=a) (t:=t) (fs:=oY) (r:=r) (by rw[mK];exact b)
 grind [mK]
theorem lor{t d c:LT}{b}{n}{Y:Kids}(f:t.at a b=fh d)(g:kids a d=fh Y)(h:fO Y)(x):
  xc a fc (vy a (λY=>zr Y n c) b t) x=if b++[n] <+: x then xc a fc c (x.drop<|fv (b++[n]))else xc a fc t x:=by
 have⟨i,j⟩:=Eu (fc:=fc) (n:=n) h f g c;by_cases e:(b++[n]) <+: x;rw[lv e];obtain⟨k,rfl⟩:=e
 grind
 grind
theorem Mc{p x:fT}(a:p <+: x):x.drop (fv p)=[]↔x=p:=by
 obtain⟨b,rfl⟩:=a
 grind
theorem TQ{t}(h:Sound a)(k:fM a 5 t)(n:fP)(c:fT){er:Int}{t':LT}(b:(jE a t oY (n::c)).2=(er,t')):
  er≠14/\(er≠0->t'=t)/\(er=0->xc a fc t (fx c++[n])=fj/\∀x,xc a fc t' x=if x=fx c++[n]then fh .dir else if fx c++[n] <+: x then fj else xc a fc t x):=by
 unfold jE at b;simp only[mK]at b;split at b
 rename_i f
 cases b;exact⟨Gs,λ_=>rfl,λe=>absurd e f⟩
 rename_i f
 obtain⟨d,i,j⟩:=uR<|oL.1 f;split at b
 grind
 rename_i l
 split at b
 grind
 cases b;refine⟨by decide,λe=>absurd fX e,λ_=>⟨?_,λx=>?_⟩⟩
 ·all_goals grind [mX,jp,jl,absurd]
 rw[lor i j<|(lO h (tA h _ k i).2.1 j).1,Zi];by_cases g:fx c++[n] <+: x;rw[lv g];by_cases e:x=fx c++[n]
 grind
 rw[km λb=>e<|(Mc g).1 b,km e,lv g]
 grind
theorem Kc{t}{n:fP}{b:fT}(c:(pd a t (n::b)).1=0):∃d Y,t.at a (fx b)=fh d/\kids a d=fh Y/\jp Y n=fh (pd a t (n::b)).2/\t.at a (fx b++[n])=fh (pd a t (n::b)).2:=by
 have:=vQ c
 grind [kz,yc]
def Gt{t}{b}:(pd a t b).1≠14:=by
 rcases AY a (λ_=>kq) t b with⟨c,_⟩|⟨c,_,d⟩<;>omega
def Dz(c):(yr a oY c).2=0\/(yr a oY c).2=5\/(yr a oY c).2=8:=by
 unfold yr;simp only[rU];split;omega;split;omega;cases c<;>simp[jB]
def Zj(b:Bool)(Y)(n)(c):(mA a oY b Y n c).2≠14:=by
 unfold mA;rcases jp Y n with _|e
 simp only;split<;>simp;simp only;unfold lD;split;simp;split;simp
 have:=Dz (a:=a) e
 omega
theorem PJ{t}(g:Sound a)(l:fM a 5 t)(n:fP)(c:fT){er:Int}{t':LT}(b:(QQ a t oY (n::c)).2=(er,t')):
  er≠14/\(er≠0->t'=t)/\(er=0->xc a fc t (fx c++[n])≠fj/\∀x,xc a fc t' x=if fx c++[n] <+: x then fj else xc a fc t x):=by
 unfold QQ at b;simp only[mJ]at b;split at b
 rename_i f
 cases b;exact⟨Gt,λ_=>rfl,λe=>absurd e f⟩
 rename_i f
 have z:=oL.1 f;have⟨d,Y,h,i,m,o⟩:=Kc z;have j:=(lO g (tA g _ l h).2.1 i).1;split at b
 rename_i p
 cases b
 have:=Dz (a:=a) (pd a t (n::c)).2
 grind
 cases b;obtain⟨q,r⟩:=NM (fc:=fc) j (by rw[<-rh j,m];rfl) h i;refine⟨by decide,λe=>absurd fX e,λ_=>⟨by unfold xc;rw[o];simp,λx=>?_⟩⟩;by_cases k:fx c++[n] <+: x
 ·rw[lv k]
  obtain⟨y,rfl⟩:=k
  all_goals grind
 all_goals grind
theorem PK{t}(l:Sound a)(o:fM a 5 t)(n m:fP)(c f:fT){er:Int}{t':LT}(b:(NE a t oY (n::c) (m::f)).2=(er,t')):
  er≠14/\(er≠0->t'=t)/\(er=0->xc a fc t (fx c++[n])≠fj/\(fx c++[n]≠fx f++[m]->¬fx c++[n] <+: fx f++[m])/\∀x,xc a fc t' x=if fx c++[n]=fx f++[m]then xc a fc t x else if fx f++[m] <+: x then xc a fc t (fx c++[n]++x.drop (fv<|fx f++[m]))else if fx c++[n] <+: x then fj else xc a fc t x):=by
 have p:n::c=m::f↔fx c++[n]=fx f++[m]:=by
  grind [kz,cmd]
 unfold NE at b;simp only[mJ,mK,kz]at b;split at b
 rename_i g
 cases b;exact⟨Gt,λ_=>rfl,λe=>absurd e g⟩
 rename_i g
 have z:=oL.1 g;have⟨d,Y,q,r,s,i⟩:=Kc z;have u:xc a fc t (fx c++[n])≠fj:=by unfold xc;rw[i];simp
 split at b
 grind
 rename_i uq
 split at b
 ·rename_i h
  cases b;refine⟨Gs,λ_=>rfl,λe=>?_⟩
  all_goals grind
 rename_i h
 have j:=oL.1 λb=>h<|.inl b;have v:¬n::c=m::f:=λb=>h<|.inr b;split at b
 rename_i k
 cases b;exact⟨Zj _ _ _ _,λ_=>rfl,λe=>absurd e k⟩;split at b
 grind
 cases b;have⟨w,y,A⟩:=uR j
 grind [decide,absurd,Sd]
abbrev Slot:=Nat×WB×WG×LT
structure En (tg:gF)(w:World)(p:Nat)(gM:List Ob)(lim:Nat)(x:Slot):Prop where
 two:2<=x.1
 wp:qB tg w x.1 p x.2.1 gM x.2.2.1 lim
 flat:Flat gM x.2.2.2 x.2.2.1.ft
 ok:fM gM 5 x.2.2.2
 fl:wE gM x.2.2.1.fl
 inj:gB gM x.2.2.2
def En.moves{P:Nat×Nat->Prop}{N M}{w H}{p}{A}{I}{x}(a:En N w p A I x)(m:fI P N M w H)(b:∀k,¬P (x.1,k)):En M H p A I x:=⟨a.two,a.wp.moves m b,a.flat,a.ok,a.fl,a.inj⟩
section
variable {ws:List Slot}
end
def kZ (k id:Int):LT:=if k=2 then .dir id else .file id
def Zk(n:fP)(k id:Int):ltOf (n,k,id)=kZ k id:=fX
theorem VO(a):∀(x:fT)(t:LT),((∃i,t=.file i)\/∃i,t=.dir i)->∀b,t.at a x≠fh (.held b)
 |[],t,f,b,e=>by
  grind [oX]
 |n::h,t,f,b,e=>by
  rw[lh]at e
  rcases f with⟨i,rfl⟩|⟨i,rfl⟩
  cases e
  rw[show kids a (.dir i)=fh ((fQ a i).map wl)from fX,wd]at e
  rcases d:jp ((fQ a i).map wl) n with _|c
  rw[d]at e;cases e
  rw[d,wd]at e
  obtain⟨y,g,k⟩:∃y∈fQ a i,c=ltOf y:=by
   unfold jp at d;obtain⟨z,j,rfl⟩:=EC.1 d;obtain⟨y,g,rfl⟩:=ja.1<|Ht j;exact⟨y,g,fX⟩
  refine VO a h c ?_ b e
  grind [ltOf]
def uS{a}{t:LT}(b:(∃i,t=.file i)\/∃i,t=.dir i)(fc tu):uQ a fc t a tu t:=λx=>url (λx c d=>absurd d<|VO a x t b c) x
theorem mZ{a}(d:Sound a)(l:List Ob)(fc:jJ):∀(x:fT)(n:Nat)(t:LT),fM a n t->xc (a++l) fc t x=xc a fc t x
 |[],n,t,b=>by
  rw[px,px]
  cases t with
  |file i=>rw[fM]at b;simp only[nd];rw[sX l<|by omega]
  |held g=>rfl
  |dir i=>rfl
  |own h=>rfl
 |m::j,n,t,b=>by
  have o:kids (a++l) t=kids a t:=by
   cases t with
   |file i=>rfl
   |held g=>rfl
   |dir i=>rw[fM]at b;simp only[kids];rw[pI l<|by omega]
   |own h=>rfl
  rw[ui,ui,o];cases p:kids a t with
  |none=>rfl
  |some Y=>
   rw[wd,wd];rcases s:jp Y m with _|c
   rfl;rw[wd,wd];have q:∃y∈Y,y.2=c:=by
    grind [jp,EC,Ht]
   obtain⟨y,r,e⟩:=q;obtain⟨k,_,f⟩:=((lO d b p).2.2 y r).2;rw[e]at f;exact mZ d l fc j k c f
def Md{a}{b}(e:nY a b)(l:List Ob):gz (a++l) b=gz a b:=by
 funext c
 unfold gz;rcases f:b c with _|x
 rfl;obtain⟨id,d⟩:=x;simp only;split
 rename_i g
 rw[sX l (by rw[(e c id d f).1 g];decide)];rfl
theorem PL(a)(fc)(i:Int)(x):xc a fc (.file i) x=if x=[]then fh (.file (bytesOf a i))else fj:=by
 rcases x with _|⟨n,b⟩
 rw[px];rfl;rw[ui,km<|by simp];rfl
def PM(a)(fc)(b)(x):xc a fc (.held b) x=if x=[]then fh (.file<|fc b)else fj:=by
 rcases x with _|⟨n,c⟩
 rw[px];rfl;rw[ui,km<|by simp];rfl
theorem TR{a b:List Ob}{fc tu}{Y ku:Kids}(f:fv Y=fv ku)(g:∀k(h:k<fv Y)(i:k<fv ku),(Y[k]).1=(ku[k]).1/\uQ a fc (Y[k]).2 b tu (ku[k]).2)(n)(x):((jp Y n).bind λc=>xc a fc c x)=((jp ku n).bind λc=>xc b tu c x):=by
 induction Y generalizing ku with
 |nil=>
  rcases ku with _|⟨y,j⟩
  rfl;cases f
 |cons z j l=>
  rcases ku with _|⟨y,m⟩
  cases f;have d:=g 0 (by simp) (by simp);simp only[ED]at d;have o:=l (ku:=m) (by grind) (λk h i=>by have:=g (k+1) (by grind) (by grind);simpa using this);unfold jp at o |-;rw[Na,Na,d.1];by_cases e:y.1=n;simp only[e,WQ,oV,wd];exact d.2 x
  grind
theorem TS(b:Nat->Option (Int×fP))(n:Nat)(r:n<=5)(j)(B:∀(c:LT)(a:List Ob),Exact a->fM a n c->nY a b->uQ (mn b n c a).2 j (kZ c.kind (mn b n c a).1) a (gz a b) c):∀(l:Kids)(a:List Ob),Exact a->nY a b->(∀x ∈ l.reverse,fN x.1=true/\fM a n x.2)->
  (lj b n l.reverse a).1.length=l.reverse.length/\∀k(e:k<(lj b n l.reverse a).1.length)(s:k<l.reverse.length),((lj b n l.reverse a).1[k]).1=(l.reverse[k]).1/\uQ (lj b n l.reverse a).2 j (ltOf<|(lj b n l.reverse a).1[k]) a (gz a b) (l.reverse[k]).2:=by
 intro l
 induction l with
 | nil=>intro a _ _ _;exact⟨fX,λk e=>absurd e<|Rv _⟩
 | cons x d C=>
  intro a f g t;have u:∀y ∈ d.reverse,fN y.1=true/\fM a n y.2:=λy O=>t y (by grind)
  obtain⟨v,D⟩:=C a f g u;obtain⟨w,P,E,Q⟩:=rT b n (λc a F h G=>kT b n r c a F h G) d.reverse a f g u;obtain⟨i,m⟩:=w.app;obtain⟨_,h⟩:=t x (by simp);have z:fM (lj b n d.reverse a).2 n x.2:=by rw[m];exact jo i n _ h
  have A:nY (lj b n d.reverse a).2 b:=by rw[m];exact g.app i
  have o:=w.exact f;obtain⟨H,I⟩:=(kT b n r x.2 (lj b n d.reverse a).2 o z A).dr.app;rw[kz,kR];simp only;refine⟨by rw[lI,v,lI];rfl,λk e s=>?_⟩;by_cases p:k<d.reverse.length;have q:k<(lj b n d.reverse a).1.length:=by rw[v];exact p
  rw[KN q,KN p];obtain⟨J,K⟩:=D k q p;refine⟨J,λy=>?_⟩;rw[<-K y,I];obtain⟨_,_⟩:=E _<|kN q;refine mZ o.sound H j y n _ ?_
  grind [ltOf,fM,kN,absurd]
  have L:k=d.reverse.length:=by
   grind
  subst L;have M:((lj b n d.reverse a).1 ++ [(x.1,x.2.kind,(mn b n x.2 (lj b n d.reverse a).2).1)])[d.reverse.length]'e=(x.1,x.2.kind,(mn b n x.2 (lj b n d.reverse a).2).1):=by
   grind
  have N:(d.reverse ++ [x])[d.reverse.length]'s=x:=by
   grind
  rw[M,N];refine⟨fX,λy=>?_⟩;rw[Zk,(B x.2 (lj b n d.reverse a).2 o z A) y,m,Md g i];exact mZ f.sound i _ y n _ h
theorem Gu(b:Nat->Option (Int×fP))(j):∀(n:Nat),n<=5->∀(c:LT)(a:List Ob),Exact a->fM a n c->nY a b->uQ (mn b n c a).2 j (kZ c.kind (mn b n c a).1) a (gz a b) c:=by
 have u:∀(n f:Nat)(a:List Ob),Exact a->nY a b->uQ (kK (b f) a).2 j (.file (kK (b f) a).1) a (gz a b) (.held f):=by
  intro n f a g h x;rw[PL,PM]
  have:bytesOf (kK (b f) a).2 (kK (b f) a).1=gz a b f:=by
   unfold gz;cases A:b f with
   | none=>exact (AV g (d:=kq)<|by decide).2.2.1
   | some y=>
    obtain⟨id,d⟩:=y;simp only;by_cases q:id≠0
    grind [kK]
    rw[km q,show kK (some (id,d)) a=ki a d by simp[kK,q]];exact (AV g (d:=d)<|(h f id d A).2 (oL.1 q)).2.2.1
  rw[this]
 intro n
 induction n with
 | zero=>
  intro _ c a g i h;cases c with
  | file id=>rw[mn];exact uS (.inl ⟨_,fX⟩) _ _
  | dir id=>rw[mn];exact uS (.inr ⟨_,fX⟩) _ _
  | held f=>rw[mn];exact u 0 f a g h
  | own es=>
   have B:es = []:=by
    cases es with
    | nil=>rfl
    | cons x v=>obtain⟨_,m,e,_⟩:=(lO g.sound i (Y:=x :: v) fX).2.2 x<|oK ..;omega
   subst B;rw[mn];obtain⟨d1,d2,d3,_⟩:=Et g (es:=[]) (by show (0:Int)<=5;decide) List.Pairwise.nil (by simp) (λe C=>by cases C);intro x;show xc (kG a []).2 j (.dir (kG a []).1) x=_;rcases x with _ | ⟨m,v⟩
   rw[px,px];rfl;rw[ui,ui];simp only[kids,d3];rfl
 | succ n D=>
  intro P c a g i h;cases c with
  | file id=>rw[mn];exact uS (.inl ⟨_,fX⟩) _ _
  | dir id=>rw[mn];exact uS (.inr ⟨_,fX⟩) _ _
  | held f=>rw[mn];exact u n f a g h
  | own es=>
   obtain⟨E,Q,F⟩:=lO g.sound i (Y:=es) fX;have G:∀y ∈ es,fN y.1=true/\fM a n y.2:=λy H=>by
    obtain⟨l,m,e,r⟩:=F y H
    have:m=n:=by omega
    subst this;exact⟨l,r⟩
   obtain⟨I,J,o,R⟩:=rT b n (λc a s i t=>kT b n (by omega) c a s i t) es a g h G;have hkr:=TS b n (by omega) j (λc a s i t=>D (by omega) c a s i t) es.reverse a g h (by grind);simp only[tP] at hkr;obtain⟨S,K⟩:=hkr;rw[uu];have w:=I.exact g;obtain⟨d1,d2,d3,_⟩:=Et w (es:=(lj b n es a).1) (ur.2 ⟨by decide,λe p=>by have:=(o e p).2.2.2;omega⟩) (vB J E) (by omega) λe p=>⟨(o e p).1,(o e p).2.1,(o e p).2.2.1⟩;obtain⟨L,M⟩:=d1.app;intro x;show xc (kG (lj b n es a).2 (lj b n es a).1).2 j (.dir (kG (lj b n es a).2 (lj b n es a).1).1) x=_;cases x with
   | nil=>rw[px,px];rfl
   | cons m y=>
    rw[ui,ui];simp only[kids,d3,wd];refine TR (by grind) (λk l r=>?_) m y;rw[oI] at l;obtain⟨N,O⟩:=K k l r;rw[yS];refine⟨N,λz=>?_⟩;rw[<-O z,M];obtain⟨_,T,U,V⟩:=o _<|kN l;refine mZ w.sound L j z n _ ?_;show fM (lj b n es a).2 n<|ltOf _
    grind [ltOf,fM,absurd]
theorem hkx{a}(d:Sound a)(l:List Ob):∀(x:fT)(n:Nat)(t:LT),fM a n t->t.at (a++l) x=t.at a x
 |[],n,t,_=>by rw[oX,oX]
 |m::x,n,t,b=>by
  rw[lh,lh]
  have e:kids (a++l) t=kids a t:=by
   cases t with
   |file i=>rfl
   |held j=>rfl
   |own o=>rfl
   |dir i=>
    have p:fK a i=2:=by cases n<;>(rw[fM]at b;exact b.1)
    show fh _=fh _
    grind [pI,decide]
  rw[e];cases f:kids a t with
  |none=>rfl
  |some Y=>
   simp only[wd];rcases g:jp Y m with _|c
   rfl;simp only[wd];obtain⟨k,_,h⟩:=((lO d b f).2.2 (m,c)<|rR g).2;exact hkx d l x k c h
theorem En.app{p}{A}{I}{N}{w}{x}(q:Sound A)(a:En N w p A I x)(l:List Ob):En N w p (A++l) I x:=by
 have i:=λf=>hkx q l f 5 _ a.ok;have T:∀id,fK A id=1->bytesOf (A++l) id=bytesOf A id:=λid j=>sX l (by omega);have r:∀id,fK A id=2->fQ (A++l) id=fQ A id:=λid j=>pI l (by omega);have h:∀id k,fK A id=k->k≠0->fK (A++l) id=k:=λid k j g=>by rw[jT l<|by omega];exact j
 refine⟨a.two,?_,⟨a.flat.kind,a.flat.root,λf=>by rw[i f];exact a.flat.od f,λf=>by rw[i f];exact a.flat.of f⟩,jo l 5 _ a.ok,λs id d t g=>h id 1 (a.fl s id d t g)<|by decide,λy z b n o=>by rw[i]at n o;exact a.inj y z b n o⟩;have c:=a.wp;have⟨u,v,B,C,D,U,E⟩:=c.nP;have⟨F,G,H,K,L,J,M,m⟩:=c.nQ;refine⟨c.tree,⟨u,v,B,C,D,λid=>?_,λid hid=>h id 1 (E id hid)<|by decide⟩,⟨F,G,H,K,L,J,M,λid hid=>⟨h id 2 (m id hid).1<|by decide,by rw[r id (m id hid).1];exact(m id hid).2⟩⟩,c.tY,c.qj,c.files,c.held,c.opens,⟨λg=>h _ 2 (c.ok.root g)<|by decide,λf O P e Q=>?_⟩⟩
 grind
 have⟨R,S⟩:=c.ok.od f O P e Q;exact⟨R,λg=>h _ _ (S g)<|by omega⟩
theorem PO(a:fT):∀k,k<=fv a->iQ (oz a k)=iY ((a.take k).map iQ)
 |0,_=>rfl
 |k+1,c=>by
  have d:=PO a k<|by omega
  have b:a.getD k kq=a[k]:=by rw[wK,jH<|by omega];rfl
  rw[vk<|by omega,nh,lM,Cf]
  simp only[oz]
  rw[b,rQ]
  split
  all_goals grind [zD,List.length,oI,kV,zy,rQ,iQ,oz,iY]
theorem jZ(a):iQ (fG a)=iY (a.map iQ):=by
 grind [fG,PO,sH]
theorem DA:∀(a:List UInt8)(c:UInt8),se (a++[c])=if c=47 then se a++[[]] else(se a).dropLast++[(se a).getLastD []++[c]]
 |[],c=>by
  grind [se]
 |d::b,c=>by
  have f:=qV b
  simp only[Eb,se]
  rw[(DA b c)]
  rcases g:se b with _|⟨y,t⟩
  exact absurd g f
  by_cases h:d=47
  ·all_goals grind
  simp only[km h]
  by_cases e:c=47
  simp[e]
  simp only[km e]
  cases t with
  |nil=>simp
  |cons z i=>simp
def hkB{s:fP}{i:Nat}(a:i<s.size):cutAt s i=decide (s[i]=47):=by unfold cutAt;rw[dif_pos a]
theorem Zl{s}:cutAt s s.size=fm:=by unfold cutAt;rw[dif_neg<|by omega]
theorem qp(s:fP)(a b):iQ (s.extract a b)=((iQ s).take b).drop a:=by
 unfold iQ;rw[bot];simp[List.drop_take]
theorem hkN(s:fP):∀i,i<=s.size->se ((iQ s).take i)=(lS s i).1.map iQ++[((iQ s).take i).drop (lS s i).2]
 |0,_=>rfl
 |i+1,b=>by
  have d:=Jy s i
  have U:i<fv (iQ s):=by rw[Kd];omega
  obtain⟨c,a⟩:=ol<|(iQ s)[i]
  have hcut:cutAt s i=decide (c=47):=by rw[hkB (by omega:i<s.size),a];rfl
  rw[vk U,<-a,DA,(hkN s i<|by omega)]
  simp only[lS,hcut]
  by_cases e:c=47
  grind [WQ,qp,Wu,lI,kV,lq,zy]
  all_goals grind
theorem PS(s):(lS s<|s.size+1).1.map iQ=se (iQ s):=by
 grind [hkN,iQ,Kd,sH,lS,Zl,qp]
theorem TT(s):fG (lS s<|s.size+1).1=s:=by
 apply iy;rw[jZ,PS,wY]
theorem Ad{x}(a:fN x=fm):∀c∈iQ x,c≠47:=by
 unfold fN at a;simp only[EH,Hw]at a;intro c b e;subst e;have⟨g,d,f⟩:=rD b;exact Ld d f a.2
theorem xM:∀{a b:fT},a.map iQ=b.map iQ->a=b
 |[],[],_=>rfl
 |[],_::_,c=>by cases c
 |_::_,[],c=>by cases c
 |x::d,y::t,c=>by
  simp only[lM,Cc]at c
  rw[iy c.1,xM c.2]
theorem xN{l:fT}(d:∀x∈l,fN x=fm):(fG l).size=0↔l=[]:=by
 constructor;intro a;rcases l with _|⟨x,c⟩
 rfl;have e:=(xp<|d x (oK ..)).1;have b:fv (iQ<|fG (x::c))=0:=by rw[Kd];exact a
 rw[jZ,lM]at b;cases c with
 |nil=>simp only[Cf,iY,Kd]at b;omega
 |cons y t=>simp only[lM,iY,lI,lq]at b;omega
 intro a;subst a;rfl
theorem Zm{l:fT}(a:l≠[])(b:∀x∈l,fN x=fm):(lS (fG l)<|(fG l).size+1).1=l:=by
 apply xM;rw[PS,jZ];refine sW _ (by simpa using a) λx c=>?_
 grind [Ad]
theorem Ae{l:fT}(a:∀x∈l,fN x=fm):jz (fG l)=(l,decide (fv l<=5)):=by
 unfold jz
 grind [xN,Zm]
theorem Gv{p}(a:(jz p).2=fm):fG (jz p).1=p:=by
 unfold jz at a |-;split at a
 ·next h0=>
  rw[lv h0];apply iy
  have:fv (iQ p)=0:=by rw[Kd];exact h0
  rw[KL this];rfl
 grind [TT]
theorem sq{a b:fT}(c:∀x∈a,fN x=fm)(d:∀x∈b,fN x=fm)(e:fG a=fG b):a=b:=by
 grind [Ae,Prod.mk.inj]
theorem Ke:∀(a b:List UInt8),se (a++47::b)=se a++se b
 |[],b=>by simp[se]
 |c::d,b=>by
  simp only[Eb,se]
  rw[(Ke d b)]
  rcases e:se d with _|⟨y,t⟩
  exact absurd e<|qV d
  split<;>simp
theorem yF:∀(a b:List (List UInt8)),a≠[]->b≠[]->iY (a++b)=iY a++47::iY b
 |[],b,h,_=>absurd fX h
 |[x],b,_,c=>by rw[bws,vz x c];rfl
 |x::y::d,b,_,c=>by
  have e:=yF (y::d) b (by simp) c
  grind [vz]
theorem PT{l:fT}(a:l≠[])(b:fL l):iY (l.map iQ)≠[]:=by
 intro e;rw[<-jZ]at e;have c:(fG l).size=0:=by rw[<-Kd,e];rfl
 exact a<|(xN b).1 c
theorem PU(p t):AC p t=fm↔∃a,a≠[]/\iQ p=iQ t++47::a:=by
 unfold AC;constructor
 ·intro b
  split at b
  ·next hl=>
   simp only[EH,Hw]at b;obtain⟨d,e⟩:=b;have c:iQ (p.extract 0 t.size)=iQ t:=by rw[<-mC,<-mC];exact eq_of_beq d
   rw[qp,Ce]at c;have f:t.size<fv (iQ p):=by rw[Kd];omega
   refine⟨(iQ p).drop<|t.size+1,?_,?_⟩
   grind [List.length,rG,Kd,zy]
   have g:=KP t.size<|iQ p;rw[c,KM f]at g;have j:(iQ p)[t.size]=47:=e
   grind
  cases b
 rintro⟨a,h,b⟩;have k:p.size=t.size+1+fv a:=by
  grind [List.length,Kd,lI,lq]
 have l:0<fv a:=WC.2 h;rw[dif_pos<|by omega];simp only[EH,Hw];constructor
 grind [iQ,qp,Kd,sH,mC]
 have i:(iQ p)[t.size]'(by rw[Kd];omega)=47:=by
  grind [List.getElem_append_right,Kd]
 exact i
theorem nU{l m}(e:fL l)(h:fL m)(f:m≠[]):AC (fG l) (fG m)=fm↔∃a,a≠[]/\l=m++a:=by
 rw[PU,jZ,jZ];constructor;rintro⟨a,b,g⟩;have i:l≠[]:=by
  rintro rfl
  have:=congrArg List.length g
  grind [iY]
 have j:=congrArg se g;rw[Ke,sW _ (by simpa using i) (λx c=>by obtain⟨y,d,rfl⟩:=ja.1 c;exact Ad<|e y d),sW _ (by simpa using f) (λx c=>by obtain⟨y,d,rfl⟩:=ja.1 c;exact Ad<|h y d)]at j;have k:(l.take<|fv m).map iQ=m.map iQ:=by
  grind [WD,oJ]
 grind [List.length,se,WC,qV,lI,oI,rG,zy,xM,kV,min,KP]
 rintro⟨a,b,rfl⟩;refine⟨iY<|a.map iQ,PT b e.right,?_⟩;rw[nh,yF _ _ (by simpa using f) (by simpa using b)]
theorem ru{l}(a:fL l):(jz<|fG l).1=l:=by rw[Ae a]
theorem kU{l d}(a:fL l)(b:fL d):wn (fG l) (fG d)=fm↔∃x,l=d++[x]:=by
 unfold wn;rw[ru a,EH,Hw];constructor;rintro⟨e,f⟩;have c:fG (l.take<|fv l-1)=fG d:=by
  grind [iy,mC]
 refine⟨l[fv l-1],?_⟩;rw[<-(sq (a.take _) b c)]
 have:=vk (l:=l) (i:=fv l-1)<|by omega
 grind
 rintro⟨x,rfl⟩;refine⟨by simp,?_⟩
 have:(d++[x]).take (fv (d++[x])-1)=d:=by simp
 grind
theorem Af{d:fT}{x:fP}(a:fL (d++[x])):rX (fG<|d++[x])=x:=by
 grind [rX,ru]
def pQ (E:List fV):Prop:=∀e∈E,∃l,l≠[]/\fL l/\fv l<=5/\e.1=fG l
def oG (E:List fV):Prop:=(E.map (·.1)).Nodup
def gm (E:List fV)(l:fT):Option (Int×Int):=if l=[]then fh (2,0) else(E.find? λe=>decide (e.1=fG l)).map (·.2)
theorem ry(E)(p):(Pl E p).bind (λi=>(E[i]?).map (·.2))=(E.find? λe=>decide (e.1=p)).map (·.2):=by
 unfold Pl;have e:(λe:fV=>decide (e.1.toList=p.toList))=λe=>decide (e.1=p):=by
  grind [yv,iy,mC]
 rw[e]
 induction E with
 |nil=>rfl
 |cons x a b=>
  rw[cnf,Na];cases c:decide (x.1=p) with
  |true=>simp
  |false=>
   rw[<-b];cases d:a.findIdx? (λe=>decide (e.1=p)) with
   |none=>simp
   |some i=>simp
theorem Zn{E}{l}(b:fL l):nz E (fG l)=((gm E l).map (·.1)).getD 0:=by
 unfold nz gm;by_cases a:l=[];subst a;rw[lv (by rw[mC];rfl),lv fX];rfl
 grind [fG,mC,jZ,PT,ry,Pl]
theorem PV{a b}(d:fL a)(f:fL b):((fG a).toList==(fG b).toList)=decide (a=b):=by
 by_cases c:a=b;subst c;simp;rw[yv c];refine EE.2 λe=>c<|sq d f (iy ?_)
 grind [mC]
theorem qN{l m:fT}:(m=l\/∃a,a≠[]/\m=l++a)↔l <+: m:=by
 constructor
 grind
 rintro⟨a,rfl⟩
 grind
theorem qq{a l}(b:fL a)(c:fL l)(d:l≠[]):(((fG a).toList==(fG l).toList)=fm\/AC (fG a) (fG l)=fm)↔l <+: a:=by
 grind [PV,nU,qN]
theorem ng{E}{m:fT}(a:m≠[]):gm E m=(E.find? λe=>decide (e.1=fG m)).map (·.2):=by unfold gm;rw[km a]
theorem uT{E}{l m}(d:fL l)(a:l≠[])(e:fL m):gm (vx E<|fG l) m=if l <+: m then fj else gm E m:=by
 by_cases b:m=[];subst b;rw[km λc=>a<|List.prefix_nil.1 c];rfl
 grind [ng,vx,qq,fG,absurd,AC]
theorem CM{E}{l m}{k f:Int}(c:fL l)(d:l≠[])(g:fL m)(h:gm E l=fj):gm (E++[(fG l,k,f)]) m=if m=l then fh (k,f)else gm E m:=by
 by_cases b:m=[];subst b;rw[km λa=>d a.symm];rfl;rw[ng b,ng b,List.find?_append];by_cases a:m=l
 grind [ng,decide,fG]
 rw[km a]
 have:decide (fG l=fG m)=fo:=yv λe=>a<|sq g c e.symm
 simp[this]
theorem Gw{b a:fT}(g:fL (b++a))(d:b≠[])(t:fT)(e:t≠[]):fG t++(fG<|b++a).extract (fG b).size (fG<|b++a).size=fG (t++a):=by
 apply iy;rw[rQ,qp,jZ<|t++a,jZ t];have f:(fG<|b++a).size=fv (iQ<|fG (b++a)):=(Kd _).symm;rw[f,sH,<-Kd,jZ,jZ];by_cases c:a=[]
 grind
 rw[nh,nh,yF _ _ (by simpa using d) (by simpa using c),yF _ _ (by simpa using e) (by simpa using c)]
 grind
theorem tv{b t a:fT}{k n:Int}(d:fL b)(e:b≠[])(g:t≠[])(f:fL a):pm (fG b) (fG t) (fG a,k,n)=if b <+: a then(fG<|t++a.drop (fv b),k,n) else(fG a,k,n):=by
 unfold pm;by_cases c:b <+: a;rw[lv c,lv<|(qq f d e).2 c];obtain⟨h,rfl⟩:=c
 grind [Gw,yT]
 grind [qq]
theorem tC{b:Type}(c:b->b)(d e:b->Bool):∀(f:List b),(∀a∈f,d (c a)=e a)->(f.map c).find? d=(f.find? e).map c
 |[],_=>rfl
 |x::g,h=>by
  have j:=tC c d e g λa i=>h a<|wq _ i
  grind
def qs{E}{p}{e:fV}(a:e∈vx E p):e∈E:=(zx.1 a).1
theorem pQ.gone{E}(a:pQ E)(p):pQ (vx E p):=λe b=>a e<|qs b
theorem DC{E}{b t m}(C:pQ E)(v:fL b)(o:b≠[])(q:fL t)(h:t≠[])(D:¬b <+: t)(F:¬t <+: b)(i:fL m):
  gm ((vx E<|fG t).map<|pm (fG b) (fG t)) m=if t <+: m then gm E (b++m.drop (fv t))else if b <+: m then fj else gm E m:=by
 have comp:∀j,¬t <+: b++j:=λj l=>by
  rcases List.prefix_or_prefix_of_prefix l (qz b j)with e|e
  exact F e;exact D e
 by_cases x:m=[];subst x;rw[km λl=>h<|List.prefix_nil.1 l,km λl=>o<|List.prefix_nil.1 l];rfl;rw[ng x];have y:∀e∈vx E (fG t),∃a,fL a/\e.1=fG a/\¬t <+: a:=λe g=>by
  have⟨a,_,c,_,d⟩:=C e<|qs g;refine⟨a,c,d,λl=>?_⟩
  have:=(zx.1 g).2
  rw[d]at this;rcases(qq c q h).2 l with z|z
  rw[z]at this;cases this;rw[z]at this;simp at this
 by_cases r:t <+: m;obtain⟨j,rfl⟩:=r;rw[lv<|qz _ _,yT];have B:=v.append i.right;have G:b++j≠[]:=by simp[o]
 rw[tC _ _ (λe=>decide (e.1=fG (b++j))) _ λe g=>?_];have u:=uT (E:=E) q h B;rw[km<|comp j,ng G]at u;rw[<-u,css]
 congr 1
 grind [pm,fG]
 have⟨a,c,d,A⟩:=y e g;have⟨p,k,n⟩:=e;simp only at d;subst d;rw[tv v o h c];by_cases f:b <+: a;obtain⟨s,rfl⟩:=f
 grind [qz,yT,fL,yv,Hu,sq]
 rw[km f,yv λe=>A (by rw[sq c i e];exact qz _ _),yv λe=>f (by rw[sq c B e];exact qz _ _)];rw[km r];by_cases w:b <+: m;rw[lv w,tC _ _ (λ_=>fo) _ λe g=>?_]
 grind
 have⟨a,c,d,A⟩:=y e g;have⟨p,k,n⟩:=e;simp only at d;subst d;rw[tv v o h c];by_cases f:b <+: a;obtain⟨s,rfl⟩:=f;rw[lv<|qz _ _,yT];exact yv λe=>r (by rw[<-sq (q.append c.right) i e];exact qz _ _);rw[km f];exact yv λe=>f (by rw[sq c i e];exact w);rw[km w,tC _ _ (λe=>decide (e.1=fG m)) _ λe g=>?_];have u:=uT (E:=E) q h i;rw[km r,ng x]at u;rw[<-u,css]
 congr 1
 grind [pm,fG]
 have⟨a,c,d,A⟩:=y e g;have⟨p,_⟩:=e;simp only at d;subst d;rw[tv v o h c];by_cases f:b <+: a;obtain⟨s,rfl⟩:=f;rw[lv<|qz _ _,yT,yv λe=>r (by rw[<-sq (q.append c.right) i e];exact qz _ _),yv λe=>w (by rw[<-sq c i e];exact qz _ _)]
 grind
theorem jW{α:Type}[DecidableEq α]:∀{xs ys:List α},xs.Nodup->(∀x∈xs,x∈ys)->fv xs<=fv ys
 |[],_,_,_=>zt _
 |x::r,ys,hn,hs=>by
  have hx:=hs x<|oK ..
  have h1:∀z∈r,z∈ys.erase x:=λz hz=>by
   have hne:z≠x:=λe=>(WJ.1 hn).1<|e▸hz
   exact(List.mem_erase_of_ne hne).2<|hs z (wq _ hz)
  have h2:=jW (WJ.1 hn).2 h1
  grind
def qO{a c:Type}(b:a->c){l:List a}(d:(l.map b).Nodup):l.Nodup:=(wz.1 d).imp λf e=>f<|congrArg b e
theorem BJ{c d:Type}{f:c->d}{l:List c}(g:∀a∈l,∀b∈l,f a=f b->a=b)(h:l.Nodup):(l.map f).Nodup:=wz.2<|List.Pairwise.imp_of_mem (λ{a b}i j k e=>k<|g a i b j e) h
theorem yG{E}(i:pQ E){d}(j:fL d){e:fV}:e∈fU E (fG d)↔∃x,fN x=fm/\(∃n∈E,n.1=fG (d++[x]))/\e=(x,0,0):=by
 unfold fU;rw[ja];constructor;rintro⟨n,f,rfl⟩;have⟨g,h⟩:=zx.1 f;have⟨a,_,b,_,c⟩:=i n g;rw[c]at h;obtain⟨x,rfl⟩:=(kU b j).1 h;exact⟨x,b x<|by simp,⟨n,g,c⟩,by rw[c,Af b]⟩;rintro⟨x,k,⟨n,f,l⟩,rfl⟩
 grind [fL,oa,zx,kU,Af]
theorem rz{E}{l:fT}(a:l≠[]):gm E l≠fj↔∃n∈E,n.1=fG l:=by
 rw[ng a]
 all_goals simp_all
theorem yH{E}(b:pQ E){d}(c:fL d){x:fP}:x∈WP E (fG d)↔fN x=fm/\gm E (d++[x])≠fj:=by
 unfold WP;rw[ja,rz<|by simp];constructor;rintro⟨e,f,rfl⟩;obtain⟨y,g,a,rfl⟩:=(yG b c).1<|rN f;exact⟨g,a⟩;rintro⟨h,a⟩;exact⟨(x,0,0),(kJ _).mem_iff.2<|(yG b c).2 ⟨x,h,a,fX⟩,fX⟩
theorem xO{E}(i:pQ E)(c:oG E){d}(r:fL d):((fU E<|fG d).map (·.1)).Nodup:=by
 unfold fU;rw[Ed];unfold oG at c;have nZ:E.Nodup:=qO _ c;have j:(E.filter λe=>wn e.1<|fG d).Nodup:=nZ.filter _;have s:∀a∈E,∀b∈E,a.1=b.1->a=b:=by
  intro a g b h e
  induction E with
  |nil=>cases g
  |cons x t k=>
   rw[lM,WJ]at c;rcases mB.1 g with rfl|l<;>rcases mB.1 h with rfl|m
   rfl
   grind
   grind
   exact k (λz n=>i z<|wq _ n) c.2 (qO _ c.2) ((qO _ c.2).filter _) l m
 have o:∀a∈E.filter λe=>wn e.1<|fG d,∀b∈E.filter λe=>wn e.1<|fG d,rX a.1=rX b.1->a=b:=by
  intro a g b h e;have⟨p,ha2⟩:=zx.1 g;obtain⟨q,u⟩:=zx.1 h;obtain⟨v,_,Lv,_,w⟩:=i a p;have⟨y,_,A,_,B⟩:=i b q
  grind [kU,Af]
 exact BJ (f:=λe:fV=>rX e.1) (λa g b h e=>o a g b h e) j
def Me{E}(a:pQ E)(b:oG E){d}(c:fL d):iD (Sx<|fU E (fG d)):=tU<|xO a b c
def PW{E}(a:pQ E)(b:oG E){d}(c:fL d):(WP E<|fG d).Nodup:=by
 exact((kJ _).map _).nodup_iff.2<|xO a b c
structure gf (nodes:List fV)(data:fT):Prop where
 jG:pQ nodes
 one:oG nodes
 few:∀d,fL d->(fU nodes (fG d)).length<=16
 kinds:∀e∈nodes,e.2.1=1\/e.2.1=2
 files:∀e∈nodes,e.2.1=1->0<=e.2.2/\e.2.2<(data.length:Int)
 up:∀l x,fL (l++[x])->gm nodes (l++[x])≠none->∃f,gm nodes l=some (2,f)
theorem Gx{l}(a:fL l)(c:fv l<=5):(fG l).size<=65:=by
 have:=xo l (λx b=>(xp (a x b)).2)<|fv l
 unfold fG;omega
theorem gf.small{E}{data}(a:gf E data):∀e∈E,e.1.size<=65:=λe b=>by
 have⟨l,_,c,d,f⟩:=a.jG e b
 rw[f]
 exact Gx c d
theorem TU{E:List fV}{d}(a:∀e∈E,wn e.1 d=fo):fU E d=[]:=by
 grind [fU,List.filter_eq_nil_iff,decide]
theorem gf.fine{E}{data}(b:gf E data)(g:fv E<=1000000000):qA E data:=by
 refine⟨g,λe a=>wy (b.small e a)<|by decide,λd=>?_,b.files⟩;by_cases c:∃e∈E,wn e.1 d=fm;have⟨e,a,U⟩:=c;have⟨l,k,f,_,h⟩:=b.jG e a;unfold wn at U;rw[h,ru f,EH]at U;have i:d=fG (l.take<|fv l-1):=by
  grind [iy,mC]
 rw[i];exact b.few _<|f.take _;rw[TU (λe a=>by cases j:wn e.1 d with|true=>exact absurd ⟨e,a,j⟩ c|false=>rfl)]
 grind
theorem mm{E}{data}(d:gf E data){l}(f:fL l):(nz E (fG l)=0↔gm E l=fj)/\(nz E (fG l)=2↔∃a,gm E l=fh (2,a))/\(nz E (fG l)=1↔∃a,gm E l=fh (1,a)):=by
 rw[Zn f];cases b:gm E l with
 |none=>simp
 |some g=>
  have⟨k,a⟩:=g;have i:k=1\/k=2:=by
   by_cases h:l=[]
   grind [gm]
   rw[ng h]at b;rcases c:E.find? (λe=>decide (e.1=fG l))with _|e
   grind
   rw[c]at b
   have:=d.kinds e<|Ht c
   grind
  grind
theorem TV{E:List fV}{e:fV}{d:fP}:fv (fU (E++[e]) d)=fv (fU E d)+if wn e.1 d=fm then 1 else 0:=by
 grind [fU,coe,nh,lI,wn]
theorem gf.push{E}{data}(g:gf E data){l:fT}{x:fP}(s:fL (l++[x]))(B:fv (l++[x])<=5)(C:∃f,gm E l=fh (2,f))(p:gm E (l++[x])=fj)(D:fv (fU E<|fG l)<16){h f:Int}{j:fT}(F:h=1\/h=2)(G:fv data<=fv j)(H:h=1->0<=f/\f<(fv j:Int)):gf (E++[(fG<|l++[x],h,f)]) j:=by
 have q:l++[x]≠[]:=by simp
 have look:=λ{m:fT}(i:fL m)=>CM (k:=h) (f:=f) s q i p;refine⟨λe c=>?_,?_,λd t=>?_,λe c=>?_,λe c u=>?_,λm y i o=>?_⟩;rcases qw.1 c with c|c
 exact g.jG e c
 grind
 unfold oG;rw[nh,List.nodup_append];refine⟨g.one,by simp,λa v b r e=>?_⟩;simp only[lM,Cf,oa]at r;have⟨n,w,z⟩:=ja.1 v;exact(rz q).2 ⟨n,w,by rw[z,e,r]⟩ p
 ·rw[TV]
  split
  ·next U=>
   grind [kU,List.append_inj']
  have:=g.few d t
  omega
 rcases qw.1 c with c|c
 exact g.kinds e c
 grind
 rcases qw.1 c with c|c
 have:=g.files e c u
 omega
 grind
 rw[look i]at o;have A:=i.left;rw[look A];by_cases e:m++[y]=l++[x]
 ·all_goals simp_all
 rw[km e]at o;obtain⟨f,I⟩:=g.up m y i o
 grind
def gf.aa1{E}{data}(a:gf E data){l:fT}{x:fP}(b:fL (l++[x]))(c:fv (l++[x])<=5)(d:∃f,gm E l=fh (2,f))(g:gm E (l++[x])=fj)(h:fv (fU E<|fG l)<16):gf (E++[(fG<|l++[x],2,0)]) data:=a.push b c d g h (.inr fX) (lw _) (λe=>by cases e)
theorem Iy(E)(p d):fv (fU (vx E p) d)<=fv (fU E d):=by
 grind [fU,vx,oI,List.filter_filter,wn,AC,List.Sublist.filter,List.filter_sublist]
theorem gf.gone{E}{data}(a:gf E data){l}(h:fL l)(i:l≠[]):gf (vx E<|fG l) data:=by
 refine⟨a.jG.gone _,a.one.sublist<|(List.filter_sublist (l:=E)).map _,λd j=>wy (Iy _ _ _)<|a.few d j,λe f=>a.kinds e<|qs f,λe f k=>a.files e (qs f) k,λm y g b=>?_⟩;rw[uT h i g]at b;have c:¬l <+: m++[y]:=λc=>by rw[lv c]at b;exact b fX
 rw[km c]at b;obtain⟨n,o⟩:=a.up m y g b;rw[uT h i g.left,km λp=>c<|p.trans (qz _ _)];exact⟨n,o⟩
def Kf(a t)(e):(pm a t e).2=e.2:=by unfold pm;split<;>rfl
theorem hlb{E}{t}(g:pQ E)(h:fL t)(i:t≠[]):∀e∈vx E (fG t),∃a,a≠[]/\fL a/\fv a<=5/\e.1=fG a/\¬t <+: a:=λe c=>by
 have⟨a,j,d,k,f⟩:=g e<|qs c
 refine⟨a,j,d,k,f,λl=>?_⟩
 have:=(zx.1 c).2
 rw[f]at this
 rcases(qq d h i).2 l with b|b
 rw[b]at this
 cases this
 rw[b]at this
 simp at this
theorem CN{b t a:fT}{e:fV}(d:fL b)(f:b≠[])(g:t≠[])(h:fL a)(c:e.1=fG a):(pm (fG b) (fG t) e).1=fG (if b <+: a then t++a.drop (fv b) else a):=by
 have⟨p,_⟩:=e;simp only at c;subst c;rw[tv d f g h];split<;>rfl
def Gy{a}(b:fL a)(k):fL (a.drop k):=λx c=>b x<|Wy c
theorem gf.rename{E}{data:(List ByteArray)}(h:gf E data){F P:(List ByteArray)}{y:ByteArray}(hF:fL F)(hFn:F≠[])(hT:fL (P++[y]))(Rxi:∀e∈E,∀a,fL a->e.1=fG a->F <+: a->fv (P++[y])+(fv a-fv F)<=5)(hFT:¬F <+: P++[y])(hTF:¬P++[y] <+: F)
  (Rxo:∃g,gm E P=fh (2,g))(acG:gm E (P++[y])≠fj\/fv (fU E<|fG P)<16\/∃z,F=P++[z]/\gm E F≠fj):
  gf ((vx E<|fG (P++[y])).map<|pm (fG F) (fG<|P++[y])) data:=by
 have hTn:P++[y]≠[]:=by simp
 have key:=hlb h.jG hT hTn;have look:=λ{m:(List ByteArray)}(hm:fL m)=>DC h.jG hF hFn hT hTn hFT hTF hm;have jG:pQ ((vx E<|fG (P++[y])).map<|pm (fG F) (fG<|P++[y])):=by
  intro e' he';obtain⟨e,he,rfl⟩:=ja.1 he';have⟨a,ha0,ha,h5,hea,hta⟩:=key e he;rw[CN hF hFn hTn ha hea];by_cases hfa:F <+: a;rw[lv hfa];refine⟨_,by simp,hT.append<|Gy ha _,?_,fX⟩
  have:=Rxi e (qs he) a ha hea hfa
  rw[lI,rG];exact this;rw[km hfa];exact⟨a,ha0,ha,h5,fX⟩
 have one:oG ((vx E<|fG (P++[y])).map<|pm (fG F) (fG<|P++[y])):=by
  unfold oG;rw[Ed];have hg:=(h.gone hT hTn).one;refine BJ (λe1 h1 e2 h2 he=>?_)<|qO _ hg;have⟨a1,_,v1,_,p1,t1⟩:=key e1 h1;have⟨a2,_,v2,_,p2,t2⟩:=key e2 h2;simp only[Function.comp]at he;rw[CN hF hFn hTn v1 p1,CN hF hFn hTn v2 p2]at he;have hvv:∀{a:(List ByteArray)},fL a->fL (if F <+: a then(P++[y])++a.drop (fv F) else a):=λ{a}ha=>by
   split;exact hT.append<|Gy ha _;exact ha
  have hq:=sq (hvv v1) (hvv v2) he;have hpe:a1=a2:=by
   by_cases f1:F <+: a1<;>by_cases f2:F <+: a2;rw[lv f1,lv f2]at hq;obtain⟨r1,rfl⟩:=f1;obtain⟨r2,rfl⟩:=f2;rw[yT,yT]at hq;rw[Hu hq];rw[lv f1,km f2]at hq;exact absurd ⟨_,hq⟩ t2;rw[km f1,lv f2]at hq;exact absurd ⟨_,hq.symm⟩ t1;rwa [km f1,km f2]at hq
  have acI:e1.1=e2.1:=by rw[p1,p2,hpe]
  have:∀{l:List fV},(l.map (·.1)).Nodup->∀{a b:fV},a∈l->b∈l->a.1=b.1->a=b:=by
   intro l hl a b ha hb e
   induction l with
   |nil=>cases ha
   |cons x r ih=>
    rw[lM,WJ]at hl;rcases mB.1 ha with rfl|ha'<;>rcases mB.1 hb with rfl|hb'
    rfl;exact absurd (ja.2 ⟨b,hb',e.symm⟩) hl.1;exact absurd (ja.2 ⟨a,ha',e⟩) hl.1;exact ih hl.2 ha' hb'
  exact this hg h1 h2 acI
 have Gz:∀{d:(List ByteArray)}{x:ByteArray},fL d->fN x=fm->gm E (d++[x])≠fj->x∈WP E (fG d):=λhd hx hl=>(yH h.jG hd).2 ⟨hx,hl⟩;refine⟨jG,one,λd hd=>?_,λe he=>?_,λe he hk=>?_,λm x hm hs=>?_⟩;rw[<-qY];have nZ:=PW jG one hd;have Th:∀x∈WP ((vx E<|fG (P++[y])).map<|pm (fG F) (fG<|P++[y])) (fG d),fN x=fm/\fL (d++[x])/\(if P++[y] <+: d++[x]then gm E (F++(d++[x]).drop (fv<|P++[y]))else if F <+: d++[x]then fj else gm E (d++[x]))≠fj:=λx hx=>by
  have⟨h1,h2⟩:=(yH jG hd).1 hx;have hv:fL (d++[x]):=hd.append (λz hz=>by rw[oa.1 hz];exact h1);rw[look hv]at h2;exact⟨h1,hv,h2⟩
 have l16:∀{d},fL d->fv (WP E<|fG d)<=16:=λhd=>by rw[qY];exact h.few _ hd
 by_cases hTd:P++[y] <+: d;obtain⟨r,rfl⟩:=hTd;refine wy (jW nZ λx hx=>?_)<|l16 (hF.append hd.right);have⟨h1,hv,h2⟩:=Th x hx;rw[lv<|(qz _ r).trans (qz _ _),sL,yT,<-sL]at h2;exact Gz (hF.append hd.right) h1 h2;by_cases hPd:d=P;subst hPd;have sub:∀x∈WP ((vx E<|fG (d++[y])).map<|pm (fG F) (fG<|d++[y])) (fG d),x=y\/(x∈WP E (fG d)/\¬F <+: d++[x]):=λx hx=>by
  have⟨h1,hv,h2⟩:=Th x hx;by_cases e:d++[y] <+: d++[x];have⟨r,hr⟩:=e
  have:r=[]:=by
   have:=congrArg List.length hr
   simpa using this
  subst this;rw[lJ]at hr
  have:=Hu hr
  exact .inl (hX1 this).1.symm;rw[km e]at h2;by_cases e2:F <+: d++[x];rw[lv e2]at h2;exact absurd fX h2;rw[km e2]at h2;exact .inr ⟨Gz hd h1 h2,e2⟩
 have hyv:=hT y (by simp);rcases acG with hc|hc|⟨z,hz,hzl⟩
 exact wy (jW nZ λx hx=>(sub x hx).elim (λe=>by rw[e];exact Gz hd hyv hc) (·.1))<|l16 hd;have hle:=jW nZ (ys:=y::WP E (fG d)) λx hx=>(sub x hx).elim (λe=>by rw[e];exact oK ..) λe=>wq _ e.1;rw[lq,qY E]at hle;omega;have hzv:fN z=fm:=hF z (by rw[hz];simp);have hzm:z∈WP E (fG d):=Gz hd hzv (by rw[<-hz];exact hzl);have hle:=jW nZ (ys:=y::(WP E<|fG d).filter λu=>decide (u≠z)) λx hx=>(sub x hx).elim (λe=>by rw[e];exact oK ..) λe=>wq _ (zx.2 ⟨e.1,qu λexz=>e.2 (by rw[exz,hz];exact List.prefix_rfl)⟩);have hlt:fv ((WP E<|fG d).filter λu=>decide (u≠z))<fv (WP E<|fG d):=CSE.2 ⟨z,hzm,by simp⟩;rw[lq]at hle
 have:=l16 hd
 omega;refine wy (jW nZ λx hx=>?_)<|l16 hd;have⟨h1,hv,h2⟩:=Th x hx;have hnp:¬P++[y] <+: d++[x]:=λe=>by
  rcases sat.1 (by simpa using e)with e|e
  exact hPd (List.append_inj' e fX).1.symm;exact hTd e
 rw[km hnp]at h2;by_cases e2:F <+: d++[x];rw[lv e2]at h2;exact absurd fX h2;rw[km e2]at h2;exact Gz hd h1 h2;obtain⟨e0,he0,rfl⟩:=ja.1 he;rw[Kf];exact h.kinds e0<|qs he0;obtain⟨e0,he0,rfl⟩:=ja.1 he;rw[Kf]at hk |-;exact h.files e0 (qs he0) hk;rw[look hm]at hs;rw[look hm.left];by_cases hTm:P++[y] <+: m;obtain⟨r,rfl⟩:=hTm;rw[lv<|(qz _ r).trans (qz _ _),sL,yT,<-sL]at hs;rw[lv<|qz _ _,yT];have hv:=(hF.append hm.left.right).append hm.right;exact h.up (F++r) x hv hs;rw[km hTm];by_cases hTx:P++[y] <+: m++[x];rcases sat.1 (by simpa using hTx)with e|e
 have:=(List.append_inj' e fX).1
 subst this;rw[km λe=>hFT<|e.trans (qz _ _)];exact Rxo;exact absurd e hTm;rw[km hTx]at hs;by_cases e2:F <+: m++[x];rw[lv e2]at hs;exact absurd fX hs;rw[km e2]at hs;rw[km λe=>e2<|e.trans (qz _ _)];exact h.up m x hm hs
theorem hlf{E}{l}(c:WF E l=0):∀k,k<fv l->nz E (fG<|l.take k)=2/\nz E (fG<|l.take (k+1))≠0:=by
 intro k f;have g:∀a,a<fv l->kL E l a=fj:=by
  intro a d;rcases b:(List.range<|fv l).findSome? (kL E l)with _|e
  exact rlr.1 b a<|KT.2 d;exfalso;unfold WF at c;rw[b]at c;obtain⟨i,_,U⟩:=List.exists_of_findSome?_eq_some b
  grind [kL]
 grind [kL]
theorem PX{E}{data}(c:gf E data){l}(d:fL l)(a:l≠[])(b:WF E l=0):gm E l≠fj:=by
 have e:0<fv l:=WC.2 a
 have:=(hlf b (fv l-1)<|by omega).2
 grind [sH,mm]
def VP{E}{data}(b:gf E data){l:fT}{x:fP}(c:fL (l++[x]))(a:xq E (l++[x])=0):∃d,gm E l=fh (2,d):=by
 unfold xq at a;have e:(l++[x]).take (fv (l++[x])-1)=l:=by simp
 rw[e]at a;split at a
 ·next h1=>exact absurd a h1
 split at a;cases a
 next h2=>exact(mm b c.left).2.1.1 (by omega)
theorem yI{p}(a:(jz p).2=fm)(c:(jz p).1.length≠0):∃l x,(jz p).1=l++[x]/\p=fG (l++[x])/\fL (l++[x])/\fv (l++[x])<=5:=by
 have d:fL (jz p).1:=Dj p;have f:=jM a;have g:=Gv a;obtain⟨l,x,e⟩:∃l x,(jz p).1=l++[x]:=by
  have b:(jz p).1≠[]:=λe=>c (by rw[e];rfl);exact⟨(jz p).1.dropLast,(jz p).1.getLast b,(List.dropLast_concat_getLast b).symm⟩
 grind
theorem PY{E}{data}(b:gf E data)(p):
  ((ww E p).2≠0/\(ww E p).1=E)\/((ww E p).2=0/\∃l x,p=fG (l++[x])/\fL (l++[x])/\fv (l++[x])<=5/\gm E (l++[x])=fj/\gf (ww E p).1 data/\∀m,fL m->gm (ww E p).1 m=if m=l++[x]then fh (2,0)else gm E m):=by
 unfold ww;split
 grind
 next h1=>
 have f:(jz p).2=fm:=by simpa using h1
 split
 grind
 next h2=>
 obtain⟨l,x,e,g,a,d⟩:=yI f h2;have h:(l++[x]).take (fv (l++[x])-1)=l:=by simp
 rw[e,h];split
 ·next h3=>exact .inl ⟨h3,rfl⟩
 next h3=>
 split
 grind
 next h4=>
 split
 grind
 next h5'=>
 have c:=(mm b a).1.1 (by grind);rw[g];refine .inr ⟨fX,l,x,fX,a,d,c,b.aa1 a d (VP b a<|by omega) c<|by omega,λm i=>CM a (by simp) i c⟩
theorem Mf{E}{data}(b:gf E data)(p):
  ((rb E p).2≠0/\(rb E p).1=E)\/((rb E p).2=0/\∃l x,p=fG (l++[x])/\fL (l++[x])/\fv (l++[x])<=5/\gm E (l++[x])≠fj/\fU E p=[]/\gf (rb E p).1 data/\∀m,fL m->gm (rb E p).1 m=if l++[x] <+: m then fj else gm E m):=by
 unfold rb;split
 grind
 next h1=>
 have d:(jz p).2=fm:=by simpa using h1
 split
 grind
 next h2=>
 obtain⟨l,x,e,c,a,f⟩:=yI d h2;rw[e];split
 ·next h3=>exact .inl ⟨h3,rfl⟩
 next h3=>
 split
 grind
 next h4=>
 refine .inr ⟨fX,l,x,c,a,f,(PX b a (by simp)<|by omega),KL<|by omega,?_,λm g=>?_⟩;rw[c];exact b.gone a<|by simp
 grind [uT]
theorem DD{E}{data}(g:gf E data){b:fT}:∀(a:fT),a≠[]->fL (b++a)->gm E (b++a)≠fj->(∃h,gm E b=fh (2,h))/\fU E (fG b)≠[]
 |[],d,_,_=>absurd fX d
 |[x],_,c,f=>by
  refine⟨g.up b x c f,λe=>?_⟩
  have i:=(yH g.jG c.left).2 ⟨c x<|by simp,f⟩
  unfold WP at i
  rw[e]at i
  cases i
 |x::y::a,_,c,f=>by
  have j:∃h,gm E (b++(x::y::a).dropLast)=fh (2,h):=by
   have e:b++x::y::a=(b++(x::y::a).dropLast)++[(x::y::a).getLast<|by simp]:=by rw[sL,List.dropLast_concat_getLast]
   rw[e]at c f;exact g.up _ _ c f
  have k:fL (b++(x::y::a).dropLast):=λz l=>c z (by
   rcases qw.1 l with d|d
   exact Rs _ d;exact WA _<|(List.dropLast_prefix _).subset d)
  obtain⟨h,m⟩:=j;exact DD g ((x::y::a).dropLast) (by simp) k (by rw[m];simp)
 termination_by a=>fv a
 decreasing_by simp
theorem lpo{E:List fV}{b}{n m:Nat}(c:fL b)(d:b≠[])(f:n=fv b)(g:E.any (iA (fG b) n m)=fo):∀e∈E,∀a,fL a->e.1=fG a->b <+: a->a≠b->m+(fv a-fv b)<=5:=by
 grind [List.any_eq_false,AC,fG,qN,absurd,nU,iA,ru]
theorem Mg{E}{data}(g:gf E data)(c t):
  ((xj E c t).1=E/\((xj E c t).2≠0\/c=t))\/((xj E c t).2=0/\∃b P y,c=fG b/\t=fG (P++[y])/\b≠[]/\fL b/\fv b<=5/\fL (P++[y])/\fv (P++[y])<=5/\gm E b≠fj/\¬b <+: P++[y]/\¬P++[y] <+: b/\gf (xj E c t).1 data/\
   ∀m,fL m->gm (xj E c t).1 m=if P++[y] <+: m then gm E (b++m.drop (fv<|P++[y]))else if b <+: m then fj else gm E m):=by
 obtain⟨ag,d⟩:=ol<|xj E c t;rw[<-d];unfold xj at d;by_cases n:(jz c).2=fo\/(jz t).2=fo
 grind
 rw[km n]at d;have H:(jz c).2=fm:=by cases o:(jz c).2 with|true=>rfl|false=>exact absurd (.inl o) n
 have I:(jz t).2=fm:=by cases o:(jz t).2 with|true=>rfl|false=>exact absurd (.inr o) n
 by_cases p:(jz c).1.length=0\/(jz t).1.length=0
 grind
 rw[km p]at d;obtain⟨l,x,J,j,f,v⟩:=yI H λe=>p<|.inl e;obtain⟨P,y,K,k,h,L⟩:=yI I λe=>p<|.inr e;have M:(P++[y]).take (fv (P++[y])-1)=P:=by simp
 rw[J,K,M]at d;obtain⟨b,hF⟩:=ol<|l++[x];rw[<-hF]at j f v d;have i:b≠[]:=by rw[hF];simp
 by_cases N:WF E b≠0
 grind
 rw[km N]at d;have q:=PX g f i (by omega);by_cases w:AC t c=fm
 grind
 rw[km w]at d;by_cases O:xq E (P++[y])≠0
 grind
 rw[km O]at d;by_cases A:(c.toList==t.toList)=fm
 grind [iy,mC]
 rw[km A]at d;have B:b≠P++[y]:=λe=>A (by grind)
 have r:¬b <+: P++[y]:=λs=>by
  rcases qN.2 s with e|e
  exact B e.symm;exact w (by grind [nU])
 by_cases Q:nz E t=2/\nz E c=1
 grind
 rw[km Q]at d;by_cases R:nz E t=1/\nz E c=2
 grind
 rw[km R]at d;by_cases C:nz E t=2/\0<fv (fU E t)
 grind
 rw[km C]at d;by_cases S:nz E t=0/\16<=fv (fU E<|fG P)/\wn c (fG P)=fo
 grind
 rw[km S]at d;by_cases D:(E.any<|iA c (fv b) (fv<|P++[y]))=fm
 grind
 rw[km D]at d;have u:¬P++[y] <+: b:=λs=>by
  rcases qN.2 s with e|⟨T,V,e⟩
  exact B e;rw[e]at q f;obtain⟨W,U⟩:=DD g T V f q;refine C ⟨by rw[k];exact(mm g h).2.1.2 W,?_⟩;rw[k];exact WC.2 U
 have X:E.any (iA (fG b) (fv b)<|fv (P++[y]))=fo:=by rw[<-j];simpa using D
 have Y:∀e∈E,∀a,fL a->e.1=fG a->b <+: a->fv (P++[y])+(fv a-fv b)<=5:=λe Z a aa ab ac=>by
  by_cases F:a=b;rwa [F,EK];exact lpo f i fX X e Z a aa ab ac F
 have ad:gm E (P++[y])≠fj\/fv (fU E<|fG P)<16\/∃z,b=P++[z]/\gm E b≠fj:=by
  by_cases ae:gm E (P++[y])=fj
  right
  have ah:nz E t=0:=by rw[k];exact(mm g h).1.2 ae
  by_cases ai:16<=fv (fU E<|fG P)
  right
  have G:wn c (fG P)=fm:=by
   grind
  rw[j]at G;obtain⟨z,aj⟩:=(kU f h.left).1 G
  grind
  left
  omega
  grind
 rw[d,j,k];exact .inr ⟨fX,b,P,y,fX,fX,i,f,v,h,L,q,r,u,g.rename f i h Y r u (VP g h<|by omega) ad,λm af=>DC g.jG f i h (by simp) r u af⟩
def Iz (data:fT)(x:Int×Int):Nd:=if x.1=2 then .dir else .file ((data[x.2.toNat]?).getD ⟨#[]⟩)
def Reads (a:List Ob)(fc:jJ)(t:LT)(E:List fV)(data:fT):Prop:=∀b,fL b->xc a fc t b=(gm E b).map (Iz data)
theorem GA{Y}(a:fO Y){x:fP×LT}(b:x∈Y):jp Y x.1=fh x.2:=by
 grind [rD,yh]
def Reads.empty(c:Reads a fc t E data){b}(d:fL b):gm E b=fj↔xc a fc t b=fj:=by
 rw[c b d,bwd]
def Reads.PZ(d:Reads a fc t E data)(e:gf E data){b}(c:fL b):nz E (fG b)=0↔xc a fc t b=fj:=(mm e c).1.trans<|d.empty c
theorem Reads.tE(e:Reads a fc t E data)(f:gf E data){b}(c:fL b):nz E (fG b)=2↔xc a fc t b=fh .dir:=by
 rw[(mm f c).2.1,e b c];constructor;rintro⟨i,g⟩;rw[g];rfl;intro d;rcases h:gm E b with _|x
 rw[h]at d;cases d
 grind [pV,Iz]
theorem tG(b:gf E data){c}{x:Int×Int}(a:gm E c=fh x):x.1=1\/x.1=2:=by
 unfold gm at a;split at a
 grind
 obtain⟨e,d,rfl⟩:=EC.1 a;exact b.kinds e<|Ht d
theorem Reads.Kg(f:Reads a fc t E data)(g:gf E data){b}(c:fL b):nz E (fG b)=1↔∃d,xc a fc t b=fh (.file d):=by
 rw[(mm g c).2.2,f b c];constructor;rintro⟨j,h⟩;rw[h];exact⟨_,fX⟩;rintro⟨d,e⟩;rcases i:gm E b with _|x
 rw[i]at e;cases e
 grind [pV,Iz,tG,absurd]
theorem hlm(E)(l:fT)(x:fP):WF E (l++[x])=if WF E l≠0 then WF E l else if nz E (fG l)≠2 then 5 else if nz E (fG<|l++[x])=0 then 4 else 0:=by
 have c:∀b,b<fv l->kL E (l++[x]) b=kL E l b:=λb a=>by
  unfold kL;rw[blt<|by omega,blt<|by omega]
 have d:kL E (l++[x]) (fv l)=if nz E (fG l)≠2 then fh 5 else if nz E (fG<|l++[x])=0 then fh 4 else fj:=by
  grind [kL,Ec,oJ]
 have f:∀(m:Nat),m<=fv l->(List.range m).findSome? (kL E<|l++[x])=(List.range m).findSome? (kL E l):=by
  intro m j
  induction m with
  |zero=>rfl
  |succ m g=>rw[List.range_succ,hxz,hxz,g<|by omega];simp only[List.findSome?_cons,List.findSome?_nil,c m<|by omega]
 have k:∀e,(List.range<|fv l).findSome? (kL E l)=fh e->e≠0:=λe h=>by
  have⟨_,b,_,_,a,_⟩:=List.findSome?_eq_some_iff.1 h;unfold kL at a;split at a;cases a;decide;split at a;cases a;decide;cases a
 have i:WF E (l++[x])=(((List.range<|fv l).findSome?<|kL E l).or<|kL E (l++[x]) (fv l)).getD 0:=by
  unfold WF;rw[lI,BX,List.range_succ,hxz,f _<|lw _,List.findSome?_cons]
  grind
 rw[i,d];unfold WF;cases n:(List.range<|fv l).findSome? (kL E l) with
 |some e=>
  grind
 |none=>
  grind
theorem tH{c}(b:nd a fc c=.dir):∃Y,kids a c=fh Y:=by
 cases c<;>first|exact⟨_,fX⟩|cases b
theorem qP{c}{d:fP}(b:nd a fc c=.file d):kids a c=fj:=by
 cases c<;>first|rfl|cases b
theorem rA(f:Reads a fc t E data)(g:gf E data):∀b:fT,fL (fx b)->(pd a t b).1=WF E (fx b)
 |[],_=>rfl
 |n::b,e=>by
  rw[kz]at e
  have m:pd a t (n::b)=(if(pd a t b).1≠0 then((pd a t b).1,.dir 0)else if(jB a (pd a t b).2).1≠0 then((jB a (pd a t b).2).1,.dir 0)else match jp (jB a (pd a t b).2).2 n with
   |none=>(4,.dir 0)
   |some c=>(0,c)):=fX
  rw[kz,hlm,<-(rA f g b e.left),m]
  by_cases h:(pd a t b).1≠0
  grind
  rw[km h,km h]
  have k:=vQ<|oL.1 h
  have o:xc a fc t (fx b)=fh (nd a fc (pd a t b).2):=by unfold xc;rw[k];rfl
  cases i:kids a (pd a t b).2 with
  |none=>
   rw[Ac i,lv<|by decide,lv λp=>?_]
   have:=(f.tE g e.left).1 p
   grind [pV,tH]
  |some Y=>
   have q:nz E (fG<|fx b)=2:=(f.tE g e.left).2 (by
    rw[o]
    cases r:nd a fc (pd a t b).2 with
    |dir=>rfl
    |file d=>rw[qP r]at i;cases i)
   rw[vP i,km<|by simp,km (by simp[q])]
   have j:=mX (fc:=fc) k i n []
   rcases l:jp Y n with _|c
   rw[l]at j
   simp only
   rw[lv<|(f.PZ g e).2 (by grind)]
   rw[l]at j
   simp only
   rw[km (λh=>by
    have:=(f.PZ g e).1 h
    rw[show fx b++[n]=fx b++n::[]from fX,j,wd,px]at this
    cases this)]
theorem Mh(e:Reads a fc t E data)(f:gf E data){b:fT}(g:fL (fx b))(x:fP):(jl a t b).1=xq E (fx b++[x]):=by
 have j:(fx b++[x]).take (fv (fx b++[x])-1)=fx b:=Ec (by simp);unfold xq jl;rw[j,<-(rA e f b g)];simp only;by_cases h:(pd a t b).1≠0
 grind
 rw[km h,km h];have k:xc a fc t (fx b)=fh (nd a fc (pd a t b).2):=by unfold xc;rw[(vQ<|oL.1 h)];rfl
 rcases c:kids a (pd a t b).2 with _|Y
 rw[Ac c,lv λi=>?_]
 have:=(e.tE f g).1 i
 grind [pV,tH]
 rw[vP c,km (λi=>i ((e.tE f g).2 (by
  rw[k];cases l:nd a fc (pd a t b).2 with
  |dir=>rfl
  |file d=>rw[qP l]at c;cases c)))]
theorem CO{f:Type}(a:f->fP):∀{b c:List f},b.Pairwise (λx y=>jb (a x) (a y)<0)->c.Pairwise (λx y=>jb (a x) (a y)<0)->(∀x,x∈b↔x∈c)->b=c
 |[],[],_,_,_=>rfl
 |[],y::c,_,_,d=>by have:=(d y).2<|oK ..;cases this
 |x::b,[],_,_,d=>by have:=(d x).1<|oK ..;cases this
 |x::b,y::c,h,i,d=>by
  obtain⟨l,j⟩:=sB.1 h
  obtain⟨m,k⟩:=sB.1 i
  have n:∀z:f,¬jb (a z) (a z)<0:=λz g=>by rw[jc]at g;omega
  have e:x=y:=by
   grind [oK,absurd,pE]
  subst e
  congr 1
  refine CO a j k λz=>⟨λg=>?_,λg=>?_⟩
  all_goals grind
def IA{a b:fT}(c:a.Pairwise λx y=>jb x y<0)(d:b.Pairwise λx y=>jb x y<0)(e:∀x,x∈a↔x∈b):a=b:=CO (λx=>x) c d e
theorem CP(k:Reads a fc t E data)(f:gf E data)(l:Sound a)(p:fM a 5 t){b}{d:LT}{Y:Kids}(g:t.at a b=fh d)(h:kids a d=fh Y):Y.map (·.1)=WP E (fG b):=by
 have⟨_,q,c⟩:=tA l b p g;have⟨m,_,r⟩:=lO l q h;refine IA (wz.2<|show Y.Pairwise (λx y=>jb x.1 y.1<0)from m) (wz.2<|show(Sx<|fU E (fG b)).Pairwise (λx y=>jb x.1 y.1<0)from Me f.jG f.one c) λx=>?_;rw[yH f.jG c];constructor;intro s;obtain⟨y,n,rfl⟩:=ja.1 s;have o:=(r y n).1;refine⟨o,λi=>?_⟩
 have:=(k.empty<|c.append (λz j=>by rw[oa.1 j];exact o)).1 i
 rw[show b++[y.1]=b++y.1::[]from fX,mX g h,GA m n,wd,px]at this;cases this;rintro⟨u,i⟩;have v:xc a fc t (b++[x])≠fj:=λe=>i<|(k.empty (c.append (λz j=>by rw[oa.1 j];exact u))).2 e
 rw[show b++[x]=b++x::[]from fX,mX g h]at v
 grind [jp,absurd,rR]
def uU(c:Reads a fc t E data)(e:gf E data)(f:Sound a)(g:fM a 5 t){b}{d:LT}{Y:Kids}(h:t.at a b=fh d)(i:kids a d=fh Y):fv Y=fv (fU E<|fG b):=by
 rw[<-qY,<-CP c e f g h i,oI]
def TW(b:Exact a):∀(n:Nat)(c:LT),0<=kQ a n c
 |n,.file id=>by cases n<;>exact b.sound.1 id
 |n,.held e=>by cases n<;>exact wC _
 |n,.dir id=>by cases n<;>exact b.sound.1 id
 |0,.own d=>wC _
 |n+1,.own d=>by
  rw[kQ]
  exact((gV (λx:fP×LT=>kQ a n x.2) d 0 _).1<|wC _).1
theorem lrk(f:Exact a):∀(n:Nat)(c:LT),fM a n c->∀m:Nat,kQ a n c<=(m:Int)↔∀x,xc a fc c x≠fj->fv x<=m:=by
 intro n
 induction n with
 |zero=>
  intro c g m;have k:kQ a 0 c<=(m:Int):=by
   have:=hkn f 0 c g
   omega
  refine⟨λ_ x b=>?_,λ_=>k⟩;rcases p:c.at a x with _|d
  unfold xc at b;rw[p]at b;exact absurd fX b
  have:=(tA f.sound x g p).1
  omega
 |succ n q=>
  intro c g m;by_cases l:c.kind=2;have⟨Y,i⟩:=rq (a:=a) l;rw[hkt f i<|TP g,gV (λx:fP×LT=>kQ a n x.2)];have⟨u,_,v⟩:=lO f.sound g i;have r:∀x∈Y,fM a n x.2:=λx b=>by
   have⟨_,m,e,w⟩:=v x b;cases e;exact w
  constructor;rintro⟨_,j⟩ x b;cases x with
  |nil=>simp
  |cons y s=>
   rw[ui,i,wd]at b;rcases h:jp Y y with _|e
   rw[h]at b;exact absurd fX b;rw[h,wd]at b;have t:=rR h;have o:=j _ t;simp only at o;have z:0<=kQ a n e:=(TW f n e)
   have:=(q e (r _ t)<|m-1).1 (by omega) s b
   grind
  intro j;refine⟨by omega,λx b=>?_⟩;have h:=GA u b;have k:xc a fc c [x.1]≠fj:=by rw[ui,i,wd,h,wd,px];simp
  have o:=j _ k;simp at o
  have:=(q x.2 (r x b)<|m-1).2 (λy A=>by
   have:=j (x.1::y) (by grind [ui])
   rw[lq]at this;omega)
  omega;rw[hkv f g l];refine⟨λ_ x b=>?_,λ_=>by omega⟩;rcases x with _|⟨y,s⟩
  simp;rw[ui,pP l]at b;exact absurd fX b
abbrev qQ:jJ:=λ_=>⟨#[]⟩
def IB (A:List Ob)(fc:jJ)(t:LT)(a:List Ob)(d:fT->Option Int)(b:fT):Prop:=∀c,t.at A b=fh c->c.id=0->∃id,d b=fh id/\fM a 5 (kZ c.kind id)/\uQ a qQ (kZ c.kind id) A fc c
theorem IB.app{fc}{t}{a}{b}{d}(f:IB A fc t a b d)(g:Sound a)(l:List Ob):IB A fc t (a++l) b d:=λc h U=>by
 obtain⟨id,i,e,j⟩:=f c h U
 exact⟨id,i,jo l 5 _ e,λy=>(mZ g l qQ y 5 _ e).trans<|j y⟩
def IB.fn{fc}{t}{a}{d f:fT->Option Int}{b}(g:IB A fc t a d b)(e:f b=d b):IB A fc t a f b:=λc h U=>by rw[e];exact g c h U
def uV (w0:fq)(p:Nat)(A:List Ob)(h:Nat->Prop)(W H:fq)(b:DB)(c:Nat)(f:List Ob)(i:fT->Option Int)(d:fT)(N':Nat)(fc:jJ)(t:LT)(j:Bool):Prop:=
 ∃g e,zn w0 p A g H b c f e N'/\sJ (TD h c) (TD g c) W H/\(∀a,¬d <+: a->e a=i a)/\∀a,d <+: a->(j=fm->a≠d)->IB A fc t f e a
theorem zo.nine{w0 W H}{e}{b}{f}{g}{h}{d}{N'}{fc}{t:LT}{i:Bool}(j:zo w0 p A e W H b f g h d N')(k:∀a c,d <+: a->(i=fm->a≠d)->t.at A a=fh c->c.id≠0):uV w0 p A e W H b f g h d N' fc t i:=by
 obtain⟨l,m,n,o,q⟩:=j;exact⟨l,m,n,o,q,λa r s c u U=>absurd U<|k a c r s u⟩
theorem Zo(o:Sound A){n}{t b:LT}{k}(p:t.at A k=fh b)(q:fM A n b)(r:(∃i,b=.file i)\/∃i,b=.dir i){l:fT}{c:LT}(s:k <+: l)(h:t.at A l=fh c):c.id≠0:=by
 obtain⟨y,rfl⟩:=s;rw[lx,p,wd]at h;have f:=(tA o _ q h).2.1;have u:∀(y:fT)(b:LT),((∃i,b=.file i)\/∃i,b=.dir i)->b.at A y=fh c->(∃i,c=.file i)\/∃i,c=.dir i:=by
  intro y
  induction y with
  |nil=>intro b j d;rw[oX]at d;cases d;exact j
  |cons m y v=>
   intro b j d;rw[lh]at d;rcases j with⟨i,rfl⟩|⟨i,rfl⟩
   cases d;rw[show kids A (.dir i)=fh ((fQ A i).map wl)from fX,wd]at d;rcases g:jp ((fQ A i).map wl) m with _|z
   rw[g]at d;cases d;rw[g,wd]at d;refine v z ?_ d;unfold jp at g;obtain⟨x,w,rfl⟩:=EC.1 g;obtain⟨e,B,rfl⟩:=ja.1<|Ht w;show(∃i,ltOf e=.file i)\/∃i,ltOf e=.dir i;unfold ltOf;split;exact .inr ⟨_,fX⟩;exact .inl ⟨_,fX⟩
 rcases u y b r h with⟨i,rfl⟩|⟨i,rfl⟩
 rw[fM]at f
 have:=(nl (a:=A) (id:=i) (by rw[f];decide)).1
 show i≠0;omega;rw[fM]at f
 have:=(nl (a:=A) (id:=i) (by rw[f.1];decide)).1
 show i≠0;omega
theorem Kh{a}{n:Nat}(b:n<=5){k id:Int}(c:fK a id=k)(d:gu a id<=n)(e:k=1\/k=2):fM a 5 (kZ k id):=by
 grind [kZ,fM]
theorem DF{N:gF}{w0 W}{g:WG}{I:Nat}{t:LT}{l}{b}{f}{a h}{i}{E N':Nat}(w:zn w0 p A l W b f a i E){d}(x:Good d)(F:i d=fj)(m)(k j:Int)(T:N'<5000000)
  {fc}{c:LT}(V:t.at A d=fh c)(X:fM h 5 (kZ c.kind j)/\uQ h qQ (kZ c.kind j) A fc c)
  (G:∀o,ju W o->ik 147 #[fD #[ie B.bt,ie b.dr,.map<|fh f],fD<|jn d,fY k] o λe H=>e=fF (fY j)/\uV w0 p A l o H b f h i d N' fc t fm):
  ik 74 #[fD #[ie B.bt,ie b.dr,.map<|fh f],fD<|jn d,fD #[hh m,fY k,fY 0]] W λe H=>e=fF (fY j)/\uV w0 p A l W H b f h i d (N'+1) fc t fo:=by
 have y:=oC W B.bt b.dr f (comp d 0) (comp d 1) (comp d 2) (comp d 3) (comp d 4) m k 0;have Y:(jN W B.bt b.dr f (comp d 0) (comp d 1) (comp d 2) (comp d 3) (comp d 4) m k 0).heap.size=W.heap.size+3:=by unfold jN;simp
 refine Py B.bt b.dr f _ _ _ _ _ m k j (λH=>uV w0 p A l (jN W B.bt b.dr f (comp d 0) (comp d 1) (comp d 2) (comp d 3) (comp d 4) m k 0) H b f h i d N' fc t fm) (λH=>uV w0 p A l W H b f h i d (N'+1) fc t fo) W (λo J=>?_) (G _ y) (λH⟨r,z,s,q,C,u⟩K L Z aa=>?_) (λH⟨r,z,s,q,C,u⟩=>?_) λH⟨r,z,s,q,C,u⟩=>?_;obtain⟨n,_,M⟩:=(w.via J).map
 have:=jV.look_ok M stk (rH o) x
 rwa [F]at this;refine q.cell (by omega) (λO=>?_) L
 have:=(w.Ka K O).2
 omega
 have:=q.keeps.size
 omega;obtain⟨P,Q,R,S,_⟩:=s.note (by omega) x j;refine⟨P,Q,r,_,R,(q.via y).trans S,λv D=>?_,λv D _=>?_⟩
 grind [kh,sM]
 by_cases e:v=d;intro ab ac U
 grind [upd_same]
 exact(u v D λ_=>e).fn<|kh e _
def uts (w0:fq)(p:Nat)(A:List Ob)(l:Nat->Prop)(w:fq)(b:DB)(f:Nat)(g:Nat->Option (Int×fP))(n:Nat)(d:Kids)(a:List Ob)(m:fT->Option Int)(h:fT)(o:Nat)(t:LT)(k:Nat)(i:Nat->Prop)(W:fq):Prop:=
 ∃j f1,i=TD j f/\zn w0 p A j W b f (lj g n (d.take k) a).2 f1 (o+2*((d.take k).map λx=>je n x.2).sum)/\sJ (TD l f) i w W/\(∀c,¬h <+: c->f1 c=m c)/\(∀e(q:e<fv d),k<=e->∀c,h++[(d[e]).1] <+: c->f1 c=fj)/\∀e(q:e<fv d),e<k->∀c,h++[(d[e]).1] <+: c->IB A (gz A g) t (lj g n (d.take k) a).2 f1 c
theorem Ki{N}{w0}{d}{I}{t}(l:wh N w0 s i p B A d I t)(n:Nat)(am:n<=5)
  {es}{g}(ad:fO es)(an:fv es<=16)(ao:∀x∈es,fN x.1=fm/\fM A n x.2)(ae:t.at A g=fh (.own es))(ap:Good g)(aH:∀x∈es,fv g<=4)
  {F}{W}{b}{C}{a}{E}{v}(M:zn w0 p A F W b C a E v)(O:gL A a)(aI:∀h,g <+: h->E h=fj)(bo:v+2*(es.map λx=>je n x.2).sum<3000000)
  (aJ:∀x∈es,∀(F:Nat->Prop)(W:fq)(a:List Ob)(E:fT->Option Int)(v:Nat),zn w0 p A F W b C a E v->gL A a->(∀h,g++[x.1] <+: h->E h=fj)->v+2*je n x.2<3000000->
   ik 74 #[fD #[ie B.bt,ie b.dr,.map<|fh C],fD<|jn (g++[x.1]),fD #[hh x.1,fY x.2.kind,fY x.2.id]] W λe H=>e=fF (fY (mn d.fl n x.2 a).1)/\uV w0 p A F W H b C (mn d.fl n x.2 a).2 E (g++[x.1]) (v+2*je n x.2) (gz A d.fl) t fo):
  ik 147 #[fD #[ie B.bt,ie b.dr,.map<|fh C],fD<|jn g,fY 2] W λe H=>e=fF (fY (kG (lj d.fl n es a).2 (lj d.fl n es a).1).1)/\uV w0 p A F W H b C (kG (lj d.fl n es a).2 (lj d.fl n es a).1).2 E g (v+2*(es.map λx=>je n x.2).sum+1) (gz A d.fl) t fm:=by
 obtain⟨aK,_,_,aL⟩:=l.tree M.below;obtain⟨J,aq⟩:=l.inv.wp.qj;have ar:d.ft.od g=fh (es.map lL):=by rw[l.flat.od,ae];rfl
 have au:=aq.row g _ ar;have aM:∀P,ju W P->(Instr.lookup 162 (.map<|fh B.oD) (fD<|jn g) fo).run prog P=.ok (J g) P:=λP aN=>by
  have:=aq.look ap<|gS M.below aN
  rw[ar]at this;exact this
 have aO:=gg au.1 λk f=>M.below.block k<|gc au.1 f;obtain⟨aP,aQ,aR,aS,aT⟩:=LW d.fl n es a;obtain⟨av,aw⟩:=O.app;have ax:nY a d.fl:=by rw[aw];exact l.TH.app av
 have ay:∀x∈es,fN x.1=fm/\fM a n x.2:=λx o=>⟨(ao x o).1,by rw[aw];exact jo av n _ (ao x o).2⟩;have az:=λk:Nat=>rT d.fl n (λc aU G aV aW=>kT d.fl n am c aU G aV aW) (es.take k) a (O.exact l.exact) ax λx o=>ay x<|Av o;have K:fv (es.map lL)=fv es:=by simp
 refine YX B.bt B.oD b.dr C _ _ _ _ _ g (J g) (es.map lL) (qy d.fl n es a) (λk=>(mn d.fl n ((es[k]?).getD (kq,.file 0)).2 (lj d.fl n (es.take k) a).2).1) _ (uts w0 p A F W b C d.fl n es a E g v t) (λH=>uV w0 p A F W H b C (kG (lj d.fl n es a).2 (lj d.fl n es a).1).2 E g (v+2*(es.map λx=>je n x.2).sum+1) (gz A d.fl) t fm) (TD F C) W aK aL aM aO (by rw[K];exact an) aP (λk f=>by rw[K]at f |-;exact aR k f) (λk f=>?_) (λk f=>?_) (λx P o=>?_) ?_ (λx o=>(M.Ka x o).2) ?_ ?_ ?_ ?_;have q:k<fv es:=by rw[K]at f;exact f
 rw[aS k q,yS];have q:k<fv es:=by rw[K]at f;exact f
 rw[aT k q,jH q,sA,yS];rfl;rw[Ed]at o;obtain⟨y,aX,rfl⟩:=ja.1 o;exact CG g ap (aH y aX) y.1 P;exact⟨F,E,fX,by simpa [lj]using M,sJ.fJ<|mi _ _,λ_ _=>rfl,(λj r _ h u=>aI h<|(qz _ _).trans u),λj r l=>absurd l<|Rv _⟩;rintro k af Y W3 ⟨Q,f1,rfl,w,D,R,S,T⟩ f;exact⟨Q,f1,fX,w.aar M.below.size f,⟨⟨f.os.trans D.keeps.os,f.tape.trans D.keeps.tape,f.output.trans D.keeps.output,wy D.keeps.size f.size,λx o aY=>(f.block x (np o D.keeps.size) (.inl o)).trans<|D.keeps.block x o aY⟩,D.own⟩,R,S,T⟩;rintro k af Y ⟨Q,f1,rfl,w,_⟩ x o;exact(w.Ka x o).2;rintro k f af Y ⟨Q,f1,rfl,w,D,R,S,T⟩;have q:k<fv es:=by rw[K]at f;exact f
 have aA:=kN q;obtain⟨L,_⟩:=az k;have aZ:=hj1 n es k q;have bp:=Pz n es<|k+1
 have:=aJ es[k] aA Q Y _ f1 _ w (O.trans L) (S k q<|lw _)<|by omega
 rw[yS,jH q,sA];refine this.mono ?_;rintro e H ⟨G,aB,f3,aC,Z,ag,bb⟩;refine⟨G,TD aB C,⟨aB,f3,fX,?_,D.trans Z,λh u=>?_,λj r bq h u=>?_,λj r br h u=>?_⟩,Z⟩;rw[aZ,vk q,kR];have V:v+2*((es.take k).map λx=>je n x.2).sum+2*je n (es[k]).2=v+2*(((es.take k).map λx=>je n x.2).sum+je n (es[k]).2):=by omega
 rwa [<-V];rw[ag h λl=>u<|(qz _ _).trans l,R h u];have ah:(es[j]).1≠(es[k]).1:=by
  intro e
  have:=Ri.1 ad k j q r<|by omega
  rw[e,jc]at this;omega
 rw[ag h<|apart ah u];exact S j r (by omega) h u;rw[vk q,kR];have bc:=kT d.fl n am (es[k]).2 (lj d.fl n (es.take k) a).2 (L.exact<|O.exact l.exact) (by obtain⟨ai,V⟩:=L.app;rw[V];exact jo ai n _ (ay _ aA).2) (by obtain⟨ai,V⟩:=L.app;rw[V];exact ax.app ai);by_cases bd:j=k;subst bd;exact bb h u (λl=>by cases l);have ah:(es[j]).1≠(es[k]).1:=by
  intro e
  have:=Ri.1 ad j k r q<|by omega
  rw[e,jc]at this;omega
 obtain⟨X,aj⟩:=bc.dr.app
 have:=(T j r (by omega) h u).fn<|ag h (apart ah u)
 rw[aj];exact this.app (L.exact<|O.exact l.exact).sound X;rintro af Y be ⟨Q,f1,rfl,w,D,R,S,T⟩ aa;rw[K]at w aa;rw[sH]at w;obtain⟨L,aD,ab,bf⟩:=az<|fv es;rw[sH]at L aD ab bf;rw[aQ]at aa;have aE:=yD d.fl n es a;have bs:=w.few;obtain⟨⟨bt,bg⟩,bh⟩:=l.gR w;have bi:wM (lj d.fl n es a).1:=⟨by rw[aE];exact an,λe G=>leq (a:=(lj d.fl n es a).2) (by omega) (ab e G).1 (ab e G).2.1 (ab e G).2.2.1⟩;rw[<-aE]at aa;refine(hjl bg bh w.Pw (by omega) be _ aa bi<|xI (vB aD ad)).mono ?_;rintro e H ⟨G,bj,f⟩;have bk:(kG (lj d.fl n es a).2 (lj d.fl n es a).1).2.length<=v+2*(es.map λx=>je n x.2).sum+1:=by
  unfold kG;rcases gI (lj d.fl n es a).2 (lj d.fl n es a).1 with _|_
  simp;omega;simp;omega
 obtain⟨aC,Z⟩:=w.Px bj f (jh _) bk;refine⟨G,_,f1,aC,D.trans Z,R,λh u bl=>?_⟩;obtain⟨y,rfl⟩:=u;intro bm ac U;cases y with
 |nil=>exact absurd (lJ g)<|bl fX
 |cons m y=>
  rw[Gm ae fX]at ac;rcases ak:jp es m with _|z
  rw[ak]at ac;cases ac;have bn:∃j,∃r:j<fv es,(es[j]).1=m:=by
   unfold jp at ak;obtain⟨bu,aF,_⟩:=EC.1 ak;obtain⟨j,r,al⟩:=rD<|Ht aF;exact⟨j,r,by rw[al];simpa using List.find?_some aF⟩
  obtain⟨j,r,al⟩:=bn;have aG:=T j r (by rw[K];exact r) (g++m::y) ⟨y,by rw[al];simp⟩;rw[K,sH]at aG;obtain⟨X,aj⟩:∃X,(kG (lj d.fl n es a).2 (lj d.fl n es a).1).2=(lj d.fl n es a).2++X:=by
   unfold kG;cases gI (lj d.fl n es a).2 (lj d.fl n es a).1 with
   |none=>exact⟨_,fX⟩
   |some _=>exact⟨[],by simp⟩
  have:=aG.app (L.exact<|O.exact l.exact).sound X
  rw[<-aj]at this;exact this bm (by rw[Gm ae fX];exact ac) U
theorem DG{N}{w0}{g}{I}{t}(E:wh N w0 s i p B A g I t){b}{ow}:∀(n:Nat),n<=5->∀(c:LT)(d:fT),fM A n c->t.at A d=fh c->Good d->fv d+n<=5->∀(l:fP)(k:Nat->Prop)(W:fq)(a:List Ob)(h:fT->Option Int)(f:Nat),zn w0 p A k W b ow a h f->gL A a->(∀z,d <+: z->h z=fj)->f+2*je n c<3000000->
  ik 74 #[fD #[ie B.bt,ie b.dr,.map<|fh ow],fD<|jn d,fD #[hh l,fY c.kind,fY c.id]] W λe H=>e=fF (fY (mn g.fl n c a).1)/\uV w0 p A k W H b ow (mn g.fl n c a).2 h d (f+2*je n c) (gz A g.fl) t fo:=by
 have S:∀(n:Nat),n<=5->∀(c:LT)(a:List Ob),gL A a->fM A n c->fM (mn g.fl n c a).2 5 (kZ c.kind (mn g.fl n c a).1)/\uQ (mn g.fl n c a).2 qQ (kZ c.kind (mn g.fl n c a).1) A (gz A g.fl) c:=by
  intro n F c a v j;obtain⟨O,T⟩:=v.app;have Z:=v.exact E.exact;have aa:fM a n c:=by rw[T];exact jo O n _ j
  have ab:nY a g.fl:=by rw[T];exact E.TH.app O
  have P:=kT g.fl n F c a Z aa ab;refine⟨Kh F P.kind P.high<|mh c,λy=>(Gu g.fl qQ n F c a Z aa ab y).trans ?_⟩;rw[T,Md E.TH O];exact mZ E.exact.sound O _ y n _ j
 have K:∀(n:Nat)(c:LT)(d:fT)(l:fP)(k:Nat->Prop)(W:fq)(a:List Ob)(h:fT->Option Int)(f:Nat),zn w0 p A k W b ow a h f->t.at A d=fh c->fM A n c->((∃i,c=.file i)\/∃i,c=.dir i)->fK A c.id≠0->mn g.fl n c a=(c.id,a)->
   ik 74 #[fD #[ie B.bt,ie b.dr,.map<|fh ow],fD<|jn d,fD #[hh l,fY c.kind,fY c.id]] W λe H=>e=fF (fY (mn g.fl n c a).1)/\uV w0 p A k W H b ow (mn g.fl n c a).2 h d (f+2*je n c) (gz A g.fl) t fo:=by
  intro n c d l k W a h f q o ag K ah Q;rw[Q];have hid:c.id≠0:=λe=>by have:=(nl ah).1;omega
  refine(xJ B.bt b.dr ow _ _ _ _ _ l c.kind c.id W hid).mono ?_;rintro e H ⟨U,V⟩;exact⟨U,(zo.fJ q V<|cop _ _).nine λz ai X _ R=>Zo E.exact.sound o ag K X R⟩
 have ac:∀(n:Nat)(r:Nat)(d:fT),t.at A d=fh (.held r)->Good d->∀(l:fP)(k:Nat->Prop)(W:fq)(a:List Ob)(h:fT->Option Int)(f:Nat),zn w0 p A k W b ow a h f->gL A a->(∀z,d <+: z->h z=fj)->f+2<3000000->n<=5->mn g.fl n (.held r) a=kK (g.fl r) a->je n (.held r)=1->
   ik 74 #[fD #[ie B.bt,ie b.dr,.map<|fh ow],fD<|jn d,fD #[hh l,fY 1,fY 0]] W λe H=>e=fF (fY (mn g.fl n (.held r) a).1)/\uV w0 p A k W H b ow (mn g.fl n (.held r) a).2 h d (f+2*je n (.held r)) (gz A g.fl) t fo:=by
  intro n r d o u l k W a h f q v w L F Q j;have C:=S n F (.held r) a v (by rw[fM];trivial);rw[Q]at C;rw[Q,j];refine DF (N:=N) (g:=g) (I:=I) (t:=t) q u (w d<|sM _) l 1 _ (N':=f+1) (by omega) o C λJ M=>?_;refine TE B.bt b.dr ow _ _ _ _ _ _ _ J λan ad=>?_;refine(hj0 E ((q.via M).via ad) (by omega) u o).mono ?_;rintro e H ⟨U,V⟩;refine⟨U,(V.via ad).nine λz ai X aj R=>?_⟩;obtain⟨y,rfl⟩:=X;rcases y with _|⟨m,y⟩
  exact absurd (lJ d)<|aj fX;rw[lx,o,wd,lh]at R;cases R
 have ae:∀(n:Nat)(es:Kids)(d:fT)(l:fP)(k:Nat->Prop)(W:fq)(a:List Ob)(h:fT->Option Int)(f N':Nat)(D:Int×List Ob),zn w0 p A k W b ow a h f->t.at A d=fh (.own es)->(fM D.2 5 (kZ 2 D.1)/\uQ D.2 qQ (kZ 2 D.1) A (gz A g.fl) (.own es))->Good d->(∀z,d <+: z->h z=fj)->N'<3000000->
   (∀J,ju W J->ik 147 #[fD #[ie B.bt,ie b.dr,.map<|fh ow],fD<|jn d,fY 2] J λe H=>e=fF (fY D.1)/\uV w0 p A k J H b ow D.2 h d N' (gz A g.fl) t fm)->
   ik 74 #[fD #[ie B.bt,ie b.dr,.map<|fh ow],fD<|jn d,fD #[hh l,fY 2,fY 0]] W λe H=>e=fF (fY D.1)/\uV w0 p A k W H b ow D.2 h d (N'+1) (gz A g.fl) t fo:=by
  intro n es d l k W a h f N' D q o C u w L ak;exact DF (N:=N) (g:=g) (I:=I) (t:=t) q u (w d<|sM _) l 2 _ (by omega) o C ak
 intro n
 induction n with
 |zero=>
  intro F c d j o u al l k W a h f q v w L;cases c with
  |file id=>exact K 0 (.file id) d l k W a h f q o j (.inl ⟨_,fX⟩) (by rw[fM]at j;show fK A id≠0;rw[j];decide) (by rw[mn];rfl)
  |dir id=>exact K 0 (.dir id) d l k W a h f q o j (.inr ⟨_,fX⟩) (by rw[fM]at j;show fK A id≠0;rw[j.1];decide) (by rw[mn];rfl)
  |held r=>exact ac 0 r d o u l k W a h f q v w (by grind [je]) (by omega) (by rw[mn]) (by rw[je])
  |own es=>
   have C:=S 0 (by omega) (.own es) a v j;rw[fM]at j;subst j;have Y:je 0 (.own [])=1:=by rw[je]
   rw[Y]at L |-;have P:mn g.fl 0 (.own []) a=kG a []:=by rw[mn]
   rw[P]at C |-;refine ae 0 [] d l k W a h f (f+1) (kG a []) q o C u w (by omega) λJ M=>?_;exact Ki E 0 (by omega) (es:=[]) List.Pairwise.nil (by simp) (λx G=>by cases G) o u (λx G=>by cases G) (q.via M) v w (by simp;omega) (λx G=>by cases G)
 |succ n ao=>
  intro F c d j o u al l k W a h f q v w L;cases c with
  |file id=>exact K _ (.file id) d l k W a h f q o j (.inl ⟨_,fX⟩) (by rw[fM]at j;show fK A id≠0;rw[j];decide) (by rw[mn];rfl)
  |dir id=>exact K _ (.dir id) d l k W a h f q o j (.inr ⟨_,fX⟩) (by rw[fM]at j;show fK A id≠0;rw[j.1];decide) (by rw[mn];rfl)
  |held r=>exact ac _ r d o u l k W a h f q v w (by grind [je]) (by omega) (by rw[mn]) (by rw[je])
  |own es=>
   have C:=S (n+1) F (.own es) a v j;rw[fM]at j;have Y:je (n+1) (.own es)=1+(es.map λx=>je n x.2).sum:=by rw[je]
   rw[Y]at L |-;rw[uu]at C |-;have am:f+2*(1+(es.map λx=>je n x.2).sum)=f+2*(es.map λx=>je n x.2).sum+1+1:=by omega
   rw[am];refine ae n es d l k W a h f _ (kG (lj g.fl n es a).2 (lj g.fl n es a).1) q o C u w (by omega) λJ M=>?_;refine Ki E n (by omega) (es:=es) j.1 j.2.1 j.2.2 o u (λx G=>by omega) (q.via M) v w (by omega) λx G k W a h f ap aq ar au=>?_;have av:Good (d++[x.1]):=⟨u.val.append (λy af=>by simp at af;rw[af];exact(j.2.2 x G).1),by simp;omega⟩
   grind [hil]
