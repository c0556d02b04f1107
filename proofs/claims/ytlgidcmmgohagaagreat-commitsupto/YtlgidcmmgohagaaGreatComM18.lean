/- A part of the proof. -/
import Derived.Test.YtlgidcmmgohagaaGreatComM17
set_option linter.all false
namespace Go.Proofs.YtlgidcmmgohagaaGreat
open Go.RowKit Go.Sort Go.Shelf Go.Proofs.Tryz
open Go.Value renaming slice->fy,string->fA,pointer->fB,tuple->fC,agg->fD,bool->fE
open Go.Ending renaming returned->fF
open Option renaming some->fh,none->fj
open Bool renaming true->fm,false->fo
open Go renaming World->fq,Value->fu
open List renaming length->fv,reverse->fx
open Go.RowKit renaming Hid->fe
set_option maxRecDepth 100000
set_option maxHeartbeats 0
variable {er fg id pl:Int}{D Dd Df J:DataW Unit}{d:fP}{b E h clock f I jf m n n0 p s:Nat}{N M:gF}{W w H w5:fq}{T A x x' y:List Ob}{k:lV}{e:Ending}{o:Ob}{q r:fT}{es0:Array MapEntry}{Y xs:iN}{v:fu}{t t':LT}{g:WG}{es:List fV}{a:ig}{fs' YG:b6}
variable {s i p:Nat}{B:WB}{A:List Ob}{ft:kI}
theorem nO.below{d:Nat->Option Nat}(a:nO w b d)(c:ju w H):nO H b d:=
 ⟨np a.1 c.size,λk e=>((kw c).1 b _ a.1).trans<|a.2.1 k e,λo=>((kw c).2 b o a.1).trans<|a.2.2 o⟩
theorem Pm(a f:Nat)(l)(g:Good l)(er:Int)(h:fq->Prop)(w:fq)(i:a<w.heap.size)(c0:w.c a 0=fh (ie f))
  (d:∀W,ju w W->ik 70 #[ie f,fD<|jn l] W λe H=>e=fF (fY er)/\h H):
  ik 31 #[ie a,hh<|lA l] w λe H=>e=fF (fY er)/\h H:=by
 have b:=λW=>kj l g W;have⟨n,o,p,q,Z,j⟩:=sf l;unfold ln at b;simp only[j]at b d;have k:fe _:=d;clear d j g;generalize lA l=t at b |-;go_enter func31,ntmps31;go_wp2_with(go_at_call 69;refine Calls.via (b _) λO c=>?_;have d0:=((kw c).1 a 0 i).trans c0;have u:=np i c.size);have m:=k (O.k (ml n o p q Z) 147).drew<|il (c.alloc c.size _);have r:fe _:=m;clear m k
 go_region_with(go_at_call 70;refine Calls.via r.o λv s=>?_)
 all_goals
  go_wp2;go_ret;exact⟨fX,s⟩
theorem JX(a f:Nat)(l)(g:Good l)(er:Int)(h:fq->Prop)(w:fq)(i:a<w.heap.size)(c0:w.c a 0=fh (ie f))
  (d:∀W,ju w W->ik 71 #[ie f,fD<|jn l] W λe H=>e=fF (fY er)/\h H):
  ik 32 #[ie a,hh<|lA l] w λe H=>e=fF (fY er)/\h H:=by
 have b:=λW=>kj l g W;have⟨n,o,p,q,Z,j⟩:=sf l;unfold ln at b;simp only[j]at b d;have k:fe _:=d;clear d j g;generalize lA l=t at b |-;go_enter func32,ntmps32;go_wp2_with(go_at_call 69;refine Calls.via (b _) λO c=>?_;have d0:=((kw c).1 a 0 i).trans c0;have u:=np i c.size);have m:=k (O.k (ml n o p q Z) 147).drew<|il (c.alloc c.size _);have r:fe _:=m;clear m k
 go_region_with(go_at_call 71;refine Calls.via r.o λv s=>?_)
 all_goals
  go_wp2;go_ret;exact⟨fX,s⟩
theorem JY(a r:Nat)(l m)(s:Good l)(t:Good m)(er:Int)(u:fq->Prop)(w:fq)(h:a<w.heap.size)(c0:w.c a 0=fh (ie r))
  (g:∀W,ju w W->ik 72 #[ie r,fD<|jn l,fD<|jn m] W λe H=>e=fF (fY er)/\u H):
  ik 33 #[ie a,hh<|lA l,hh<|lA m] w λe H=>e=fF (fY er)/\u H:=by
 have c:=λW=>kj l s W;have d:=λW=>kj m t W;have⟨i,j,k,n,Z,v⟩:=sf l;have⟨d0,d1,d2,d3,d4,x⟩:=sf m;unfold ln at c d;simp only[v]at c g;simp only[x]at d g;have y:fe _:=g;clear g v x s t;generalize lA l=G at c |-;generalize lA m=I at d |-;go_enter func33,ntmps33;go_wp2_with fail;refine Calls.via (c w) λO f=>?_;have B:=((kw f).1 a 0 h).trans c0;have J:=np h f.size;have p:ju w (O.k (ml i j k n Z) 147):=f.alloc f.size _;have z:O.heap.size<(O.k (ml i j k n Z) 147).heap.size:=by simp
 have C:a<(O.k (ml i j k n Z) 147).heap.size:=by simp;omega
 go_wp2_with fail;refine Calls.via (d _) λD b=>?_
 have f0:=((kw<|gS p b).1 a 0 h).trans c0;have K:=λo=>(kw b).1 O.heap.size o z;have L:=np C b.size;have M:=np z b.size;have q:=gS p b;have A:=y (D.k (ml d0 d1 d2 d3 d4) 147).drew<|il (q.alloc q.size _);have E:fe _:=A;clear A y c d f b p q B;go_wp2
 go_region_with(go_at_call 72;refine Calls.via E.o λN F=>?_)
 all_goals
  go_wp2;go_ret;exact⟨fX,F⟩
theorem Dt(b h k:Nat)(c:Nat->Option Nat)(fg:Int)(l)(i:Good l)(er:Int)(D:er≠0)(j:fq->Prop)(w)(g:nO w b c)(c0:w.c b 0=fh (ie h))(t:k<8)(m:c k=fj)(n:∀o,o<k->c o≠fj)
  (u:∀W,ik 118 #[fY fg] W<|PP (fE fm) W)
  (d:∀W,ju w W->ik 120 #[ie h,fD<|jn l,fY fg] W λe H=>e=pD #[fB fj,fY er]/\j H):
  ik 63 #[ie b,hh<|lA l,fY fg] w λe H=>e=pD #[fY 0,fY er]/\j H:=by
 have f:=λW=>kj l i W;have p:=g.1;have⟨v,x,y,z,Z,q⟩:=sf l;unfold ln at f;simp only[q]at f d;have r:=λW(A:ju w W)=>JE b k c W (g.below A) t m n
 change fe _ at r d
 clear q i g m n;generalize lA l=E at f |-;go_enter func63,ntmps63;go_wp2_with(first
  |(go_at_call 69;refine Calls.via (f _) λO a=>?_;have F:=((kw a).1 b 0 p).trans c0;have G:=np p a.size)
  |(go_at_call 118;apply Calls.still<|u _)
  |(go_at_call 119;go_loud(refine Calls.still (r _<|a.alloc a.size _) ?_)))
 have s:=d (O.k (ml v x y z Z) 147).drew<|il (a.alloc a.size _);have B:fe _:=s;clear s d
 go_region_with(go_at_call 120;refine Calls.via B.o λI C=>?_)
 all_goals
  go_wp2;go_ret2;exact⟨fX,C⟩
theorem Tt(a o k:Nat)(c:Nat->Option Nat)(fg:Int)(l)(p:Good l)(d:Nat->fq->Prop)(w)(j:nO w a c)(c0:w.c a 0=fh (ie o))(m:k<8)(q:c k=fj)(r:∀s,s<k->c s≠fj)
  (B:∀W,ik 118 #[fY fg] W<|PP (fE fm) W)
  (g:∀W,ju w W->ik 120 #[ie o,fD<|jn l,fY fg] W λe H=>∃f,e=pD #[ie f,fY 0]/\d f H)
  (h:∀f H,d f H->nO H a c):
  ik 63 #[ie a,hh<|lA l,fY fg] w λe H=>e=pD #[fY (k:Int),fY 0]/\∃f O,d f O/\H=(O.setCell (ii a<|1+k)<|ie O.heap.size).k #[ie f,fY fg,fY 0] 277:=by
 have i:=λW=>kj l p W;have t:=j.1;have⟨C,D,E,F,Z,u⟩:=sf l;unfold ln at i;simp only[u]at i g;have v:=λW(G:ju w W)=>JE a k c W (j.below G) m q r;have x:=λf O(n:d f O)=>XW a k f fg _ O (h f O n).1 ((h f O n).2.1 k m) ((h f O n).2.2 _) m
 change fe _ at v g x
 clear u p j q r h;generalize lA l=K at i |-;go_enter func63,ntmps63;go_wp2_with(first
  |(go_at_call 69;refine Calls.via (i _) λO b=>?_;have L:=((kw b).1 a 0 t).trans c0;have M:=np t b.size)
  |(go_at_call 118;apply Calls.still<|B _)
  |(go_at_call 119;go_loud(refine Calls.still (v _<|b.alloc b.size _) ?_)))
 have y:=g (O.k (ml C D E F Z) 147).drew<|il (b.alloc b.size _);have I:fe _:=y;clear y g
 go_region_with(go_at_call 120;apply RK I;rintro e J ⟨f,rfl,z⟩;have A:fe _:=z;clear z)
 all_goals
  go_wp2_with(go_at_call 121;go_loud(refine RK (x _ _ A) ?_;rintro e w5 ⟨rfl,rfl⟩));go_ret2;exact⟨fX,f,J,A,fX⟩
theorem LS(a k o:Nat)(n:Int)(d)(er:Int)(b:fq->Prop)(w:fq)(c:w.c a (1+k)=fh (ie o))(f:k<8)
  (g:ik 125 #[ie o,fY n] w λe H=>e=pD #[hh d,fY er]/\b H):
  ik 66 #[ie a,fY (k:Int),fY n] w λe H=>e=pD #[hh d,fY er]/\b H:=by
 go_enter func66,ntmps66;go_wp2_with(first
  |(go_at_call 122;refine(xw a k o w c f).still ?_)
  |(go_at_call 125;refine g.via λO h=>?_))
 go_ret2;exact⟨fX,h⟩
theorem hi4(a k o:Nat)(d)(er:Int)(b:fq->Prop)(w:fq)(c:w.c a (1+k)=fh (ie o))(f:k<8)
  (g:ik 123 #[ie o,hh d] w λe H=>e=fF (fY er)/\b H):
  ik 64 #[ie a,fY (k:Int),hh d] w λe H=>e=fF (fY er)/\b H:=by
 go_enter func64,ntmps64;go_wp2_with(first
  |(go_at_call 122;refine(xw a k o w c f).still ?_)
  |(go_at_call 123;refine g.via λO h=>?_))
 go_ret;exact⟨fX,h⟩
def hja(a k o:Nat)(w:fq)(b:a<w.heap.size)(c:w.c a (1+k)=fh (ie o))(d:w.frozen? (ii a<|1+k)=fo)(f:k<8):
  ik 65 #[ie a,fY (k:Int)] w λe H=>e=fF (fY 0)/\H=w.setCell (ii a<|1+k) (fB fj):=by
 go_enter func65,ntmps65;go_wp2_with(go_at_call 124;refine(OH a k o w b c d f).mono ?_;rintro e O ⟨rfl,rfl⟩);go_ret;exact⟨fX,fX⟩
theorem js.Gg{d}{e:Bool}(f:js N w s p A d e I)(g:fK A id=1):(bytesOf A id).size<=256:=by
 obtain⟨j,k⟩:=Br (A:=A) (id:=id) (by omega);obtain⟨b,rfl⟩:∃b:Nat,id=(b:Int)+1:=⟨(id-1).toNat,by omega⟩;have c:b<fv A:=by omega
 obtain⟨_,ft,_,⟨a,h,l,m,Df,Dd,i⟩,_⟩:=f;rw[FN c];rw[xa c]at g;rcases i.zz A[b] (kN c) with⟨_,_⟩|⟨n,_⟩
 all_goals omega
theorem Pn{a}{fs YG:b6}(b:Hn A a fs f=(YG,0,d)):Hn A a YG f=(YG,0,d):=by
 grind [Hn,vo,hid,b6.De,b6.gP,decide]
theorem yA(c:fZ N w s i p B A g I)(e:wE A g.fl)(a:Hn A g.fl g.fs f=(YG,er,d)):d.size<=256:=by
 unfold Hn at a;rcases b:g.fl f with _|x
 rw[b]at a;simp only[vo]at a;rw[<-a.2.2];simp[ByteArray.size];have⟨id,d0⟩:=x;rw[b]at a;simp only at a;by_cases hid:id=0;rw[lv hid]at a;simp only[vo]at a;rw[<-a.2.2];exact(c.wp.files f id d0 b).2.2;rw[km hid]at a;split at a;simp only[vo]at a;rw[<-a.2.2];exact c.st.Gg<|e f id d0 b hid
 grind [vo,ByteArray.size]
theorem gZ(a:fZ N w s i p B A g I){k b f:Nat}(c:g.op k=fh (b,f,fg,pl)):b<w.heap.size/\w.c b 0=fh (ie f)/\w.c b 1=fh (fY fg)/\w.c b 2=fh (fY pl)/\(∀o,w.frozen? (ii b o)=fo):=by
 have⟨_,_⟩:=a.wp.opens.at_ k b f fg pl c
 grind [lW,World.cell?,ptr,World.frozen?]
theorem Gh(b:fZ N w s i p B A g I){x:Int×fP}(c:g.fl f=fh x):f<w.heap.size/\(∃x y z,w.c f 0=fh x/\w.c f 1=fh y/\w.c f 2=fh z)/\∀o,w.frozen? (ii f o)=fo:=by
 have⟨id,d⟩:=x;have⟨_,a,_⟩:=b.wp.files f id d c;exact⟨(lW.1 a).1,⟨_,_,_,by simp[World.cell?,a];rfl,by simp[World.cell?,a];rfl,by simp[World.cell?,a];rfl⟩,λo=>by simp[World.frozen?,a]⟩
def hji{i:Nat}(t:Nat×Nat)(a:t=(i,7)):Mine i t:=.inr (by rw[a])
theorem hjj(a:fZ N w s i p B A g I)(r:I<1099511627776)(j:wE A g.fl){k b f:Nat}{fg pl n:Int}(c:g.op k=fh (b,f,fg,pl))(t:(bits BinOp.and IntKind.i64 fg 1==0)=fo)(u:1<=n)(v:pl<256)(l:Hn A g.fl g.fs f=(YG,0,d)):
  ik 125 #[ie b,fY n] w λe H=>e=pD #[fA<|d.extract (min pl.toNat d.size) (min (min pl.toNat d.size+(min n<|256-pl).toNat) d.size),fY 0]/\
   ∃M,fI (Mine i) N M w H/\fZ M H s i p B A { g with fs:=YG,op:=pC g.op k (fh (b,f,fg,pl+(d.extract (min pl.toNat d.size)<|min (min pl.toNat d.size+(min n<|256-pl).toNat) d.size).size)) } (I+1):=by
 have⟨G,c0,c1,c2,_⟩:=gZ a c;have⟨_,_,⟨x,y⟩,_,_,z,_⟩:=a.wp.opens.at_ k b f fg pl c;have m:=ri a r j y;rw[l]at m;refine(jmp b f fg pl n d _ w c0 c1 c2 t u z v (yA a j l) m λO C=>?_).mono ?_;have⟨o,q,h⟩:=C;have⟨J,_⟩:=gZ h c
 grind
 rintro e H ⟨D,O,⟨o,q,h⟩,rfl⟩;have K:((d.extract (min pl.toNat d.size)<|min (min pl.toNat d.size+(min n<|256-pl).toNat) d.size).size:Int)<=256-pl:=by
  grind [hxs]
 have⟨E,F⟩:=h.place c (VI:=pl+(d.extract (min pl.toNat d.size)<|min (min pl.toNat d.size+(min n<|256-pl).toNat) d.size).size) (by omega) (by omega);exact⟨D,o,(q.mono λ_ a=>a.mine).trans<|E.mono hji,F⟩
theorem YH(c:fZ N w s i p B A g I)(X:I+2<1099511627776)(r:wE A g.fl){k b f a:Nat}{d h:fP}(m:g.op k=fh (b,f,fg,pl))(K:(bits BinOp.and IntKind.i64 fg 2==0)=fo)(D:1<=d.size)(L:0<=iU fg pl 0)(P:iU fg pl 0+d.size<=256)(t:Hn A g.fl g.fs f=(YG,0,h))(Q:iU fg pl h.size=(a:Int))(Y:a+d.size<=256):
  ik 123 #[ie b,hh d] w λe H=>e=fF (fY 0)/\
   ∃M,fI (Mine i) N M w H/\fZ M H s i p B A { g with fs:=YG,fl:=pC g.fl f<|fh (0,tX h d a),op:=pC g.op k (fh (b,f,fg,(a:Int)+d.size)) } (I+2):=by
 have⟨Z,c0,c1,c2,_⟩:=gZ c m;have⟨_,_,⟨x,q⟩,_⟩:=c.wp.opens.at_ k b f fg pl m;have R:=yA c r t;have E:=ri c (by omega) r q;rw[t]at E;have S:(tX h d a).size<=256:=by
  grind [tX,xu,ByteArray.size,zh,Cg]
 refine(hba b f fg pl (a:Int) h d (λO=>mG s i p B A N w O { g with fs:=YG }<|I+1) (λl=>∃M,fI (Mine i) N M w l/\fZ M l s i p B A { g with fs:=YG,fl:=pC g.fl f (fh (0,tX h d a)) } (I+2)) w c0 c1 c2 K D L P Q (by omega) (by omega) E (λO u=>?_) (λO u=>?_) λl T=>?_).mono ?_;have⟨U,F,v⟩:=u;have⟨_,aa,ab,ac,_⟩:=gZ v m
 grind
 have⟨U,F,v⟩:=u;have G:=ri v (by omega) r q;have V:=Pn t;rw[V]at G;refine(OG f a h d _ O D (by omega) R G λl W=>?_).mono ?_;have⟨n,o,j⟩:=W;exact Gh j q;rintro e H ⟨y,l,ad,⟨n,o,j⟩,J,rfl⟩;have⟨z,C⟩:=(j.below J).Gd q S;exact⟨y,n,((F.mono λ_ c=>c.mine).trans (o.mono λ_ c=>c.mine)).trans<|(fI.fJ J).trans (z.mono Pk),C⟩;have⟨n,o,j⟩:=T;have⟨ae,_⟩:=gZ j m
 grind
 rintro e H ⟨y,l,⟨n,o,j⟩,rfl⟩;have⟨z,C⟩:=j.place m (VI:=(a:Int)+d.size) (by omega) (by omega);exact⟨y,n,o.trans<|z.mono hji,C⟩
def i64 (x:Int):Prop:=-9223372036854775808<=x/\x<=9223372036854775807
def opT (g:WG):Nat->Option Nat:=λk=>(g.op k).map (·.1)
def ubx(a:fZ N w s i p B A g I):nO w B.wb (opT g)/\w.c B.wb 0=fh (ie B.bt):=a.wp.opens.tab
theorem CB.aaZ{of:fT->Option Nat}(c:CB N w i B of I)(a:Good q)(d:ju w W):
  (Instr.lookup 161 (.map<|fh B.oF) (fD<|jn q) fo).run prog W=.ok (((of q).map ptr).getD<|fB fj) W:=by
 obtain⟨_,⟨n,_,e,b,f,_⟩,_⟩:=c
 have:=(b.keep (H:=W)<|d.block _ b.lt).look yV underlying161 (LM W)<|Bt a
 have g:e (qi prog q)=(of q).map ptr:=f q a;rw[g]at this;exact this
theorem tj{a:Nat×Nat->Prop}{o:Obj}(f:¬a (0,0))(e:N b=(0,0))(m:fI a N M W H)(c:W.heap[b]?=fh o):H.heap[b]?=fh o/\M b=(0,0):=by
 have d:=(lW.1 c).1;exact⟨(m.block b d (by grind)).trans c,(m.tags b d).trans e⟩
theorem pO(U:2<=i):¬gC i (0,0):=by
 rintro(a|a|a)
 all_goals grind
theorem Po{o}(a:w.grownBy H (fh b)):w.grownBy (H.alloc o) (fh b):=by
 have⟨c,d,e,f,g⟩:=a;refine⟨c,d,e,by simp;omega,λk h i=>?_⟩
 all_goals grind [sG,np]
def lu (w:fq)(b:Nat):Prop:=w.heap[b]?=fh (.cells #[.int .i64 0,.int .i64 0] 141 (0,0))
theorem lu.cells(a:lu w b):b<w.heap.size/\w.c b 0=fh (fY 0)/\w.c b 1=fh (fY 0)/\∀o,w.frozen? (ii b o)=fo:=by
 unfold lu at a
 all_goals grind [lW,World.cell?,World.frozen?]
theorem YI(t)(c d f g Z a)(k id er:Int)(i:fq->Prop)(w:fq)(o:(er==0)=fo)
  (h:ik 136 #[ie t,fD<|ml c d f g Z] ((w.k (ml c d f g Z) 147).k #[fY 0,fY 0] 141) λe H=>e=pD #[fD #[hh a,fY k,fY id],fY er]/\lu H (w.heap.size+1)/\i H):
  ik 126 #[ie t,fD<|ml c d f g Z] w λe H=>e=pD #[fD #[fY 0,fY 0],fY er]/\∃b,i b/\b.grownBy H (fh<|w.heap.size+1):=by
 change fe _ at h
 go_enter func126,ntmps126;go_wp2_with fail;refine RK h ?_;rintro e b ⟨rfl,j,l⟩;have⟨m,c0,c1,f0⟩:=j.cells;have n:fe _:=l;clear j l h;go_wp2;exact ni (v:=fC #[fD #[fY 0,fY 0],fY er]) (by simp[results,results126,go_sem,c0,c1,m]) fX ⟨fX,b,n.o,Po<|sk (sk<|Ha _ _)⟩
def Pp(w)(q):ju w ((w.k (jn q) 147).k #[fY 0,fY 0] 141):=((mi _ _).alloc (lw _) _).alloc (by simp) _
def Tu(w:fq)(q):lu ((w.k (jn q) 147).k #[fY 0,fY 0] 141) (w.heap.size+1):=by
 have:=nX (w.k (jn q) 147)<|.cells #[fY 0,fY 0] 141
 simpa [lu]using this
theorem lcm(a i:Nat)(l)(j:Good l)(k g er:Int)(m:fq->Prop)(w:fq)(z:a<w.heap.size)(c0:w.c a 0=fh (ie i))
  (c:∀W,ju w W->lu W w.heap.size->ik 126 #[ie i,fD<|jn l] W λe H=>e=pD #[fD #[fY k,fY g],fY er]/\lu H w.heap.size/\m H):
  ik 67 #[ie a,hh<|lA l] w λe H=>e=pD #[fD #[fY k,fY g],fY er]/\∃d,m d/\d.grownBy H (fh w.heap.size):=by
 have f:=λW=>kj l j W;obtain⟨n,o,p,q,Z,r⟩:=sf l;unfold ln at f;simp only[r]at f c;have h:ju w (w.k #[fY 0,fY 0] 141):=(mi _ _).alloc (lw _) _;have s:lu (w.k #[fY 0,fY 0] 141) w.heap.size:=nX _ _;have t:a<(w.k #[fY 0,fY 0] 141).heap.size:=by simp;omega
 have A:=((kw h).1 a 0 z).trans c0
 change fe _ at c h s
 clear r j;generalize lA l=G at f |-;go_enter func67,ntmps67;go_wp2_with(go_at_call 69;refine Calls.via (f _) λO b=>?_;have d0:=((kw b).1 a 0 t).trans A;have I:=np t b.size);have u:lu (O.k (ml n o p q Z) 147).drew w.heap.size:=by
  have B:O.heap[w.heap.size]?=_:=(b.block w.heap.size<|by simp).trans s;show(O.alloc _).heap[w.heap.size]?=_;rwa [sG _ _ _ (lW.1 B).1]
 have x:=c (O.k (ml n o p q Z) 147).drew (gS h<|il (b.alloc b.size _)) u;have C:fe _:=x;clear x c u
 go_region_with(go_at_call 126;refine Calls.via C.o λd⟨y,D⟩=>?_;have⟨J,E,F,f2⟩:=y.cells;clear y)
 all_goals
  go_wp2;exact ni (v:=fC #[fD #[fY k,fY g],fY er]) (by simp[results,results67,go_sem,E,F]) fX ⟨fX,d,D,sk<|sk (Ha _ _)⟩
theorem YJ{w a H}(U:2<=i)(m:fI (gC i) N M w a)(f:fZ M a s i p B A g I)(h:M w.heap.size=(0,0))(b:a.grownBy H (fh w.heap.size)):mG s i p B A N w H g I:=by
 have c:=f.own b h;obtain⟨j,l,n,o,q⟩:=b;exact⟨M,⟨j.trans m.os,l.trans m.tape,n.trans m.output,wy m.size o,m.tags,λk d r=>(q k (np d m.size) (λe=>by injection e with e;omega)).trans<|m.block k d r,λt=>c.st.fresh⟩,c⟩
structure jy (tg:gF)(w:World)(s i p:Nat)(B:WB)(gM:List Ob)(g:WG)(lim:Nat)(t:LT):Prop where
 inv:fZ tg w s i p B gM g lim
 flat:Flat gM t g.ft
 ok:fM gM 5 t
 fl:wE gM g.fl
def VK (s i p:Nat)(B:WB)(A:List Ob)(N:gF)(w H:fq)(I:Nat)(b:WG->LT->Prop):Prop:=∃M a t',fI (Mine i) N M w H/\jy M H s i p B A a I t'/\b a t'
def CJ (g:WG)(fs':b6)(b:LT)(a:WG)(t':LT):Prop:=t'=b/\a.fs=fs'/\a.fl=g.fl/\a.base=g.base/\a.op=g.op
theorem jy.ws(b:jy N w s i p B A g I t):B.wb<w.heap.size/\w.c B.wb 0=fh (ie B.bt)/\nO w B.wb (λk=>(g.op k).map (·.1)):=by
 have⟨a,c⟩:=b.inv.wp.opens.tab;exact⟨a.1,c,a⟩
def jy.mono(a:jy N w s i p B A g I t)(b:I<=jf):jy N w s i p B A g jf t:=⟨a.inv.mono b,a.flat,a.ok,a.fl⟩
def jy.below(a:jy N w s i p B A g I t)(b:ju w H):jy N H s i p B A g I t:=⟨a.inv.below b,a.flat,a.ok,a.fl⟩
theorem VK.of(a:jy N w s i p B A g I t)(b:Left s i p B A N w H g fs' t' jf):VK s i p B A N w H jf (CJ g fs' t'):=by
 have⟨M,e,m,c,hF,d⟩:=b;exact⟨M,_,t',m,⟨c,hF,d,a.fl⟩,fX,fX,fX,fX,fX⟩
theorem VK.mono{a:WG->LT->Prop}(b:VK s i p B A N w H I a)(c:I<=jf):VK s i p B A N w H jf a:=by
 have⟨M,d,t',m,e,f⟩:=b;exact⟨M,d,t',m,e.mono c,f⟩
theorem yB(a:ju w W)(b:Left s i p B A N W H g fs' t' I):Left s i p B A N w H g fs' t' I:=by
 have⟨M,c,m,d,hF,e⟩:=b;exact⟨M,c,mr a m,d,hF,e⟩
theorem uby(a:jy N w s i p B A g I t)(j:I+1000<1099511627776){n:fP}(d:Good (fx r++[n])):
  ik 31 #[ie B.wb,hh<|lA (fx r++[n])] w λe H=>e=fF (fY (jE A t g.fs (n::r)).2.1)/\VK s i p B A N w H (I+400) (CJ g (jE A t g.fs (n::r)).1 (jE A t g.fs (n::r)).2.2):=by
 have⟨h,c0,_⟩:=a.ws;refine(Pm B.wb B.bt _ d _ _ w h c0 λW f=>(SX (a.inv.below f) (by omega) a.flat a.ok d).mono λe H⟨b,c⟩=>⟨b,yB f c⟩).mono ?_;rintro e H ⟨b,c⟩;exact⟨b,(VK.of a c).mono<|by omega⟩
theorem lcs(a:jy N w s i p B A g I t)(j:I+1000<1099511627776){n:fP}(d:Good (fx r++[n])):
  ik 32 #[ie B.wb,hh<|lA (fx r++[n])] w λe H=>e=fF (fY (QQ A t g.fs (n::r)).2.1)/\VK s i p B A N w H (I+400) (CJ g (QQ A t g.fs (n::r)).1 (QQ A t g.fs (n::r)).2.2):=by
 have⟨h,c0,_⟩:=a.ws;refine(JX B.wb B.bt _ d _ _ w h c0 λW f=>(OU (a.inv.below f) (by omega) a.flat a.ok d).mono λe H⟨b,c⟩=>⟨b,yB f c⟩).mono ?_;rintro e H ⟨b,c⟩;exact⟨b,(VK.of a c).mono<|by omega⟩
theorem ld1(a:jy N w s i p B A g I t)(m:I+1000<1099511627776){n b:fP}{r c:fT}(h:Good (fx r++[n]))(j:Good (fx c++[b])):
  ik 33 #[ie B.wb,hh<|lA (fx r++[n]),hh<|lA (fx c++[b])] w λe H=>e=fF (fY (NE A t g.fs (n::r) (b::c)).2.1)/\VK s i p B A N w H (I+400) (CJ g (NE A t g.fs (n::r) (b::c)).1 (NE A t g.fs (n::r) (b::c)).2.2):=by
 have⟨l,c0,_⟩:=a.ws;refine(JY B.wb B.bt _ _ h j _ _ w l c0 λW k=>(Pg (a.inv.below k) (by omega) a.flat a.ok h j).mono λe H⟨d,f⟩=>⟨d,yB k f⟩).mono ?_;rintro e H ⟨d,f⟩;exact⟨d,(VK.of a f).mono<|by omega⟩
theorem Pq(t a:Nat)(b c f g Z h d)(id er:Int)(i:fq->Prop)(w:fq)(p:t<w.heap.size)(hid:id≠0)(c1:w.c t 1=fh (ie a))
  (j:∀W,ju w W->ik 213 #[ie a,fY id] W λe H=>e=pD #[hh d,fY er]/\i H):
  ik 214 #[ie t,fD<|ml b c f g Z,fD #[hh h,fY 1,fY id]] w λm H=>m=pD #[hh d,fY er]/\i H:=by
 have k:ju w ((w.k (ml b c f g Z) 147).k #[hh h,fY 1,fY id] 96).drew:=il<|((mi _ _).alloc (lw _) _).alloc (by simp) _;have l:=j _ k;have n:fe _:=l;have q:(id==0)=fo:=by simpa using hid
 clear j l k;go_enter func214,ntmps214;go_wp2
 go_region_with(go_at_call 213;refine Calls.via n.o λr o=>?_)
 all_goals
  go_wp2;go_ret2;exact⟨fX,o⟩
theorem Gi(t)(a b c e Z nm d:fP)(id er:Int)(k:d.size<=256)(g:fq->Prop)(w:fq)
  (h:ik 214 #[ie t,fD<|ml a b c e Z,fD #[hh nm,fY 1,fY id]] ((w.k (ml a b c e Z) 147).k #[hh nm,fY 1,fY id] 96) λf H=>f=pD #[hh d,fY er]/\g H):
  ik 183 #[ie t,fD<|ml a b c e Z,fD #[hh nm,fY 1,fY id]] w λf H=>f=pD #[fY (d.size:Int),fY er]/\g H:=by
 have i:fe _:=h;clear h;go_enter func183,ntmps183;go_wp2_with fail;refine Calls.via i.o λl j=>?_;go_wp2;go_ret2;exact⟨fX,j⟩
theorem YK(t n)(b d f g Z h)(id er:Int)(j:fq->Prop)(w:fq)
  (k:ik 187 #[ie t,fD<|ml b d f g Z,fD #[hh h,fY 2,fY id]] ((w.k (ml b d f g Z) 147).k #[hh h,fY 2,fY id] 96) λi H=>∃a c,i=pD #[fy a n c,fY er]/\j H):
  ik 183 #[ie t,fD<|ml b d f g Z,fD #[hh h,fY 2,fY id]] w λi H=>i=pD #[fY (n:Int),fY er]/\j H:=by
 have l:fe _:=k;clear k;go_enter func183,ntmps183;go_wp2_with fail;apply RK l.o;rintro e o ⟨a,c,rfl,m⟩;go_wp2;go_ret2;exact⟨fX,m⟩
theorem YL(t)(c d f g Z a)(k id i er:Int)(l:fq->Prop)(m:fq->Prop)(w:fq)
  (n:ik 136 #[ie t,fD<|ml c d f g Z] ((w.k (ml c d f g Z) 147).k #[fY 0,fY 0] 141) λe H=>e=pD #[fD #[hh a,fY k,fY id],fY 0]/\lu H (w.heap.size+1)/\(∀o,H.c w.heap.size o=((w.k (ml c d f g Z) 147).k #[fY 0,fY 0] 141).c w.heap.size o)/\l H)
  (p:∀H,l H->lu H (w.heap.size+1)->ik 183 #[ie t,fD<|ml c d f g Z,fD #[hh a,fY k,fY id]] (H.k #[hh a,fY k,fY id] 96) λe b=>e=pD #[fY i,fY er]/\lu b (w.heap.size+1)/\(∀o,b.c H.heap.size o=(H.k #[hh a,fY k,fY id] 96).c H.heap.size o)/\H.heap.size<b.heap.size/\m b):
  ik 126 #[ie t,fD<|ml c d f g Z] w λe H=>e=pD #[fD<|if er=0 then #[fY k,fY i]else #[fY 0,fY 0],fY er]/\∃b,m b/\b.grownBy H (fh<|w.heap.size+1):=by
 have q:fe _:=n;have r:fe _:=p;clear n p;go_enter func126,ntmps126;go_wp2_with fail;refine Calls.via q.o λs⟨j,C,u⟩=>?_;have⟨D,c0,c1,f0⟩:=j.cells;have E:w.heap.size<s.heap.size:=by omega
 have x:=r.o s u j;have y:fe _:=x;clear j u q r x;go_wp2_with fail;refine Calls.via y.o λb⟨z,F,G,A⟩=>?_;have⟨I,d0,d1,J⟩:=z.cells;have B:fe _:=A;clear z A y;by_cases h:er=0
 ·subst h
  go_wp2;apply ni (v:=fC #[fD #[fY k,fY i],fY 0]) (by simp[results,results126,go_sem,d0,d1]) fX;exact⟨fX,b,B.o,sk<|sk (Ha _ _)⟩
 have K:(er==0)=fo:=by simpa using h
 have L:fe _:=h;clear h;go_wp2;apply ni (v:=fC #[fD #[fY 0,fY 0],fY er]) (by simp[results,results126,go_sem,d0,d1]) fX;exact⟨fX,b,B.o,sk<|sk (Ha _ _)⟩
theorem Tv{d nm:fP}(b:fZ N w s i p B A g I)(h:I<1099511627776)(j:wE A g.fl)(k:Good q)(l:g.ft.of q=fh f){x:Int×fP}(m:g.fl f=fh x)(n:Hn A g.fl g.fs f=(YG,er,d)):
  ik 214 #[ie B.bt,fD<|jn q,fD #[hh nm,fY 1,fY 0]] w λo H=>o=pD #[hh d,fY er]/\mG s i p B A N w H { g with fs:=YG } (I+1):=by
 have a:ju w ((w.k (jn q) 147).k #[hh nm,fY 1,fY 0] 96).drew:=il<|((mi _ _).alloc (lw _) _).alloc (by simp) _;have e:=b.wp.tY.aaZ k a;rw[l]at e;have c:=ri (b.below a) h j m;rw[n]at c;have⟨y,t7,t8⟩:=b.xG;have⟨z,C,D,E,Z,r⟩:=sf q;rw[r]at e a c |-;simp only[oV,sA,ptr]at e;have t:fe _:=a;have u:fe _:=c;clear b a c;go_enter func214,ntmps214;go_wp2
 go_region_with(go_at_call 181;refine Calls.via u.o λF v=>?_)
 all_goals
  go_wp2;go_ret2;exact⟨fX,v.via t.o⟩
def CK(p n h)(a:ig)(w:fq)(b:w.c p 0=fh (fy a n h)):
  ik 86 #[ie p] w (PP (fY n) w):=by
 go_enter func86,ntmps86;go_wp2;go_ret;exact⟨fX,fX⟩
theorem oB{b k o c:Nat}(d:k≠b):(w.setCell (ii b o) v).c k c=w.c k c:=wJ (a:=(ii k c))<|vh _ _ _ _ d
def ud (w H:fq)(b:Nat)(a:ig)(n h:Nat)(xs Y:iN):Prop:=
 ∃g R O,O.ownsRow 0 213 4 (fy (fh ⟨g,0,fj⟩) (n+1) R) (n+1) (xs++Y)/\(∃c d,((w.alloc c).alloc d).drew.grownBy O (Value.slice a n h).ownBlock/\((fh g:Option Nat)=(Value.slice a n h).ownBlock\/g=w.heap.size+2))/\
  ∃q,H=(O.setCell ⟨b,1,fj⟩<|fy (fh ⟨g,0,fj⟩) (n+1) R).drewN q
theorem JZ(b p:Nat)(k c:Int)(d)(a:ig)(n h:Nat)(xs)(f:ig)(el i)(s:ig)(l t:Nat)(w:fq)(u:b<w.heap.size)(L:p<w.heap.size)(M:b≠p)(ab:n<4000000)(ac:l<=400)
  (N:w.c b 0=fh (ie p))(P:w.c b 1=fh (fy a n h))(f1:w.frozen? (ii b 1)=fo)(Q:w.c p 0=fh (fy s l t))
  (y:w.ownsRow 0 213 4 (fy a n h) n xs)(z:fh b≠(Value.slice a n h).ownBlock)(A:fh p≠(Value.slice a n h).ownBlock):
  ik 223 #[ie b,fD #[fY k,hh d,fy f el i,fY c]] w λe H=>e=fF (fY<|(l:Int)+((n+1:Nat):Int))/\ud w H b a n h xs [fY k,hh d,fy f el i,fY c]:=by
 have⟨S,U,T,V,X⟩:=kC den;have B:∀o∈[Value.int .i64 k,hh d,fy f el i,fY c],o.oneCell'=fm:=by intro o C;simp at C;rcases C with rfl|rfl|rfl|rfl<;>rfl
 have D:fe (w.ownsRow 0 213 4 (fy a n h) n xs):=y;have r:fe (fh b≠(Value.slice a n h).ownBlock):=z;have E:fe (fh p≠(Value.slice a n h).ownBlock):=A;have F:fe (∀o∈[Value.int .i64 k,hh d,fy f el i,fY c],o.oneCell'=fm):=B;have Y:=λW c=>CK p l t s W c;have Z:¬p=b:=λe=>M e.symm;clear y z A B;go_enter func223,ntmps223;go_wp2
 go_region_law(refine pu fX (.tmp 9) (.tmp 11) 181 fX 0 213 S _ 4 56 underlying181 U T V X fX (by decide) (fy a n h) n xs (by simp[Act.eval]) ((D.alloc _).alloc _) (ii (w.heap.size+1) 0) 1 1 [fY k,hh d,fy f el i,fY c] (by simp[Act.eval]) fX (by have q:=RG (w.k #[fY k,hh d,fy f el i,fY c] 213) (fY k) (hh d) (fy f el i) (fY c) 213;rw[zw]at q;exact q) F (by unfold maxLen;omega) (by omega) (zt _) ?_;intro ad O v j G;obtain⟨g,R,rfl⟩:=hZ v (by omega);have ae:=vp j u r N;have af:=vp j u r P;have ag:=Aw j u r f1;have I:=vp j L E Q)
 all_goals
  have aa:∀J:fu,(O.setCell (ii b 1) J).c p 0=fh (fy s l t):=λJ=>(oB Z).trans I;have K:fe (∀q,ud w ((O.setCell (ii b 1)<|my g 0 (n+1) R).drewN q) b a n h xs [fY k,hh d,fy f el i,fY c]):=λq=>⟨g,R,O,v,⟨_,_,j,by simpa [Value.ownBlock]using G⟩,q,fX⟩;clear j v G I D r E F;obtain⟨m,x⟩:∃m,n+1=m:=⟨_,fX⟩;have ah:m<=4000000:=by omega
  rw[x]at K |-
  change fe _ at x
  go_wp2
  go_quiet (first|(go_at_call 86;exact Ca<|Y _ (aa _)))
  go_wp2;go_ret;obtain rfl:=x;exact⟨fX,K _⟩
structure DB where
 dr:Nat
 mf:Nat
 md:Nat
def qo (n0:Nat)(T:List Ob)(D:DataW Unit):Prop:=∀d:fP,Maps.has D (.string d.data.toList)=(fileAt T d).isSome/\∀i,fileAt T d=fh i->D.atKey (.string d.data.toList) (.lit<|.int .i64 0)=.lit (.int .i64<|(n0:Int)+((i+1:Nat):Int))
def tq (n0:Nat)(T:List Ob)(D:DataW Unit):Prop:=∀es:List fV,wM es->Maps.has D (pj prog es)=(gI T es).isSome/\∀i,gI T es=fh i->D.atKey (pj prog es) (.lit<|.int .i64 0)=.lit (.int .i64<|(n0:Int)+((i+1:Nat):Int))
theorem qo.put(a:qo n0 A D)(g:Maps.IsMap D)(d)(h:fileAt A d=fj)(j:o.kind=1)(f:o.data=d):qo n0 (A++[o]) (D.put (.string d.data.toList)<|.lit (.int .i64<|(n0:Int)+((fv A+1:Nat):Int))):=by
 intro b;rw[qb,f];by_cases e:d=b
 grind [hIn,WideAt.IsKeyLit,pV,clz]
 have c:(Lit.string b.data.toList)≠.string d.data.toList:=λa=>e (bytes_inj (by grind));rw[km λa=>e a.2,Nb];refine⟨?_,?_⟩;rw[hBW c];exact(a b).1;intro i U;rw[cin c];exact(a b).2 i U
def qo.other(a:qo n0 A D)(b:o.kind≠1):qo n0 (A++[o]) D:=by
 intro c;rw[qb,km λa=>b a.1,Nb];exact a c
theorem tq.put(b:tq n0 A D)(h:Maps.IsMap D)(c:wM es)(j:gI A es=fj)(k:o.kind=2)(a:o.gh=es):
  tq n0 (A++[o]) (D.put (pj prog es)<|.lit (.int .i64<|(n0:Int)+((fv A+1:Nat):Int))):=by
 intro f d;have l:=EW.key (lg es c.1 λe a=>(c.2 e a).1);rw[rM,a];by_cases e:es=f
 grind [hIn,pV,clz]
 have g:pj prog f≠pj prog es:=λb=>e<|EX c.1 d.1 (λe a=>(c.2 e a).1) (λe a=>(d.2 e a).1) (λe a=>(c.2 e a).2) (λe a=>(d.2 e a).2) b.symm;rw[km λb=>e b.2,Nb];refine⟨?_,?_⟩;rw[hBW g];exact(b f d).1;intro i U;rw[cin g];exact(b f d).2 i U
theorem tq.other(a:tq n0 A D)(b:o.kind≠2):tq n0 (A++[o]) D:=by
 intro c d;rw[rM,km λa=>b a.1,Nb];exact a c d
def si (w:fq)(p:Nat)(b:DB)(a:ig)(n h:Nat):Prop:=w.heap[b.dr]?=fh (.cells #[fB<|fh ⟨p,0,fj⟩,fy a n h,.map<|fh b.mf,.map<|fh b.md] 248 (0,0))
theorem si.c{b}(c:si w p b a n h):b.dr<w.heap.size/\w.c b.dr 0=fh (ie p)/\w.c b.dr 1=fh (fy a n h)/\w.c b.dr 2=fh (.map<|fh b.mf)/\w.c b.dr 3=fh (.map<|fh b.md)/\w.frozen? (ii b.dr 1)=fo:=by
 grind [si,lW,World.cell?,World.frozen?]
structure vN (D:Nat->Prop)(w:World)(p:Nat)(b:DB)(n0:Nat)(a:ig)(cap:Nat)(Df Dd:DataW Unit)(ms:List Ob):Prop where
 dd:D b.dr
 df:D b.mf
 dm:D b.md
 da:∀g,(Value.slice a ms.length cap).ownBlock=some g->D g
 hd:si w p b a ms.length cap
 row:w.ownsRow 0 213 4 (.slice a ms.length cap) ms.length (gD ms)
 files:w.ownsMap prog 9 (plainElem prog 29) b.mf ms.length Df
 lZ:qo n0 ms Df
 rL:w.ownsMap prog 208 (plainElem prog 29) b.md ms.length Dd
 oh:tq n0 ms Dd
 ne:b.mf≠b.md
 zz:∀o∈ms,wD w D o
 low:∀o∈ms,o.high=0
theorem vN.keep{D i:Nat->Prop}{b}(c:vN D w p b n0 a h Df Dd T)(f:∀k,k<w.heap.size->D k->H.heap[k]?=w.heap[k]?)(e:∀k,k<w.heap.size->D k->i k):vN i H p b n0 a h Df Dd T:=by
 have j:∀v m t k xs,w.ownsRow 0 t k v m xs->(∀g,v.ownBlock=fh g->D g)->H.ownsRow 0 t k v m xs:=λv m t k xs l hFg=>gg l λg d=>f g (gc l d)<|hFg g d;refine⟨e _ c.hd.c.1 c.dd,e _ c.files.lt c.df,e _ c.rL.lt c.dm,λg d=>e g (gc c.row d)<|c.da g d,?_,j _ _ _ _ _ c.row c.da,pB c.files<|f _ c.files.lt c.df,c.lZ,pB c.rL<|f _ c.rL.lt c.dm,c.oh,c.ne,λo r=>?_,c.low⟩
 have:=c.hd
 unfold si at this |-;rwa [f _ c.hd.c.1 c.dd];rcases c.zz o r with c|⟨s,u,x,y,z,A,n,q⟩
 exact .inl c;exact .inr ⟨s,u,x,y,z,A,λg d=>e g (gc q d)<|n g d,j _ _ _ _ _ q n⟩
theorem ud.facts{b:DB}(e:ud w H b.dr a n h xs Y)(d:si w p b a n h)(f:fh b.dr≠(Value.slice a n h).ownBlock):
  ∃g R,si H p b (fh<|ii g 0) (n+1) R/\H.ownsRow 0 213 4 (my g 0 (n+1) R) (n+1) (xs++Y)/\((fh g:Option Nat)=(Value.slice a n h).ownBlock\/w.heap.size<=g)/\
   H.os=w.os/\H.tape=w.tape/\H.output=w.output/\w.heap.size<=H.heap.size/\∀k,k<w.heap.size->k≠b.dr->fh k≠(Value.slice a n h).ownBlock->H.heap[k]?=w.heap[k]?:=by
 obtain⟨g,R,O,s,⟨i,j,c,t⟩,q,rfl⟩:=e;have l:=d.c.1;have m:∀k,k<w.heap.size->fh k≠(Value.slice a n h).ownBlock->O.heap[k]?=w.heap[k]?:=by
  intro k u o;rw[c.block k (by simp;omega) o];show((w.alloc i).alloc j).heap[k]?=_
  grind [sG]
 have v:O.heap[b.dr]?=fh (.cells #[ie p,fy a n h,.map<|fh b.mf,.map<|fh b.md] 248 (0,0)):=by rw[m b.dr l f];exact d
 have x:g≠b.dr:=by
  grind
 have r:=c.size;simp at r;have y:∀k:Nat,((O.setCell (ii b.dr 1)<|my g 0 (n+1) R).drewN q).heap[k]?=(O.setCell (ii b.dr 1)<|my g 0 (n+1) R).heap[k]?:=λk=>rfl;refine⟨g,R,?_,?_,?_,?_,?_,?_,?_,?_⟩
 grind [si,World.setCell]
 grind [gg,Value.ownBlock,vh]
 grind
 exact c.os;exact c.tape;exact c.output;simp;omega
 grind [vh]
def zm (w H:fq)(p:Nat)(b:DB)(a:ig)(n h E:Nat)(k:lV)(cells:iN)(D:DataW Unit):Prop:=
 ∃c d,si H p b (fh ⟨c,0,fj⟩) (n+1) d/\H.ownsRow 0 213 4 (fy (fh ⟨c,0,fj⟩) (n+1) d) (n+1) cells/\((fh c:Option Nat)=(Value.slice a n h).ownBlock\/w.heap.size<=c)/\
  H.ownsMap prog k (plainElem prog 29) E (n+1) D/\RH w H b.dr E (Value.slice a n h).ownBlock
theorem ud.aa0{w w5 g:fq}{b:DB}(o:ud w w5 b.dr a n h xs Y)(d:si w p b a n h)(j:w.ownsRow 0 213 4 (fy a n h) n xs)
  (f:w.heap[E]?=fh (.map es0 clock))(q:g.ownsMap prog k (plainElem prog 29) E (n+1) D)(c:w5.grownBy g (fh E)):zm w g p b a n h E k (xs++Y) D:=by
 have l:E≠b.dr:=by rintro rfl;unfold si at d;rw[f]at d;cases d
 obtain⟨r,s,t,m,u,v,x,y,i,z⟩:=o.facts d<|io j (b:=b.dr) d (by decide);have A:=(lW.1 f).1;have H:=(z E A l<|rv j f).trans f;refine⟨r,s,?_,?_,u,q,⟨?_,?_,?_,wy i c.size,?_⟩⟩;unfold si;rw[c.block b.dr (np d.c.1 i) λe=>l (rF e).symm];exact t;refine gg m λB C=>(c.block B (gc m C) ?_)
 grind [rv]
 rw[c.os];exact v;rw[c.tape];exact x;rw[c.output];exact y;intro k F I G J;rw[c.block k (np F i) λe=>G<|rF e]
 grind
theorem zm.before{w O H}{b}{cells}(c:ju w O)(d:zm O H p b a n h E k cells D):zm w H p b a n h E k cells D:=by
 obtain⟨g,i,j,l,m,o,e⟩:=d;refine⟨g,i,j,l,?_,o,⟨e.os.trans c.os,e.tape.trans c.tape,e.output.trans c.output,wy c.size e.size,λk f q r s=>?_⟩⟩;rcases m with d|d
 exact .inl d;exact .inr<|wy c.size d;rw[e.block k (np f c.size) q r s,c.block k f]
theorem vN.grow{D}{b}{Df Dd l n:DataW Unit}(i:vN D w p b n0 a h Df Dd T)
  (d:zm w H p b a (fv T) h E k (gD T++o.cells) J)(z:D E)(A:w.heap[E]?=fh (.map es0 clock))(P:wD H (kA D w H) o)(Q:o.high=0)
  (S:H.ownsMap prog 9 (plainElem prog 29) b.mf (fv T+1) l)(B:qo n0 (T++[o]) l)
  (U:H.ownsMap prog 208 (plainElem prog 29) b.md (fv T+1) n)(C:tq n0 (T++[o]) n):
  ∃F R,vN (kA D w H) H p b n0 F R l n (T++[o])/\fH D w H:=by
 obtain⟨G,I,V,K,L,W,f⟩:=d;have M:∀k,k<w.heap.size->¬D k->H.heap[k]?=w.heap[k]?:=λk s q=>f.block k s (λe=>q<|e▸i.dd) (λe=>q<|e▸z) λe=>q<|i.da k e.symm;refine⟨fh<|ii G 0,I,⟨.inl i.dd,.inl i.df,.inl i.dm,?_,?_,?_,?_,B,?_,C,i.ne,?_,?_⟩,⟨f.os,f.tape,f.output,f.size,M⟩⟩;intro g t;rcases L with c|c
 refine .inl<|i.da g ?_;rwa [<-c];simp only[Value.ownBlock,pV]at t;subst t;exact .inr ⟨c,gc K fX⟩
 grind
 grind [vu]
 grind
 grind
 intro x r;rcases qw.1 r with c|c
 refine(i.zz x c).mono (λk s N=>.inl N) λv m xs j=>gg j λg d=>?_;have u:=io j (b:=b.dr) i.hd (by decide);have y:=rv j A;rw[d]at u y;refine f.block g (gc j d) (λe=>u (by rw[e])) (λe=>y (by rw[e])) ?_;rcases j.2 with⟨rfl,_⟩|⟨X,Y,Z,rfl,_,O,_⟩
 grind [Value.ownBlock]
 simp only[Value.ownBlock,pV]at d;subst d;exact io i.row O<|by decide
 grind
 intro x r;rcases qw.1 r with c|c
 exact i.low x c
 grind
theorem zm.other{b}{cells xs}(o:zm w H p b a n h E k cells D)(d:si w p b a n h)(q:w.ownsRow 0 213 4 (fy a n h) n xs)
  {f}{g}{i:fu->Option (DataW Unit×List MemPlace)}{c m}{j:DataW Unit}(e:w.ownsMap f g i c m j)(r:c≠E):H.ownsMap f g i c m j:=by
 obtain⟨u,v,_,_,_,_,s⟩:=o;obtain⟨es,clock,l⟩:=pp e;have t:c≠b.dr:=by rintro rfl;unfold si at d;rw[l]at d;cases d
 exact pB e<|s.block c e.lt t r (rv q l)
theorem Tw(p a:Nat)(b:DB)(Df:DataW Unit)(n)(d:fP)(c:Int)(w:fq)(m:d.size<=256)(o:b.dr<w.heap.size)(q:w.c b.dr 0=fh (ie p))(r:w.c p 1=fh (.map<|fh a))
  (g:w.ownsMap prog 9 (plainElem prog 29) a n Df)(e:Maps.has Df (.string d.data.toList)=fm)(f:Df.atKey (.string d.data.toList) (.lit<|.int .i64 0)=.lit (.int .i64 c)):
  ik 222 #[ie b.dr,hh d] w (PP (fY c) w):=by
 have h:=rfg (P:=prog) underlying9 (s:=d) (by unfold maxLen;omega);have i:fe (Df.atKey (.string d.data.toList) (.lit<|.int .i64 0)=.lit (.int .i64 c)):=f;have j:fe (Maps.has Df (.string d.data.toList)=fm):=e;clear f e;go_enter func222,ntmps222;go_wp2_with(first
  |(at_lookup;refine ble _ fX _ _ 182 fX 9 29 .i64 HL underlying182 underlying29 (rH _) a n Df fX g _ _ fX h ?_;intro k l t;rw[j.o];obtain rfl:k=c:=by(have:=l.symm.trans i;simpa using this))
  |go_in)
 go_ret;exact⟨fX,fX⟩
theorem Pr(p a:Nat)(b:DB)(Df J:DataW Unit)(n m)(d:fP)(c:Int)(w:fq)(o:d.size<=256)(q:b.dr<w.heap.size)(r:w.c b.dr 0=fh (ie p))(t:w.c p 1=fh (.map<|fh a))(u:w.c b.dr 2=fh (.map<|fh b.mf))(v:a≠b.mf)
  (i:w.ownsMap prog 9 (plainElem prog 29) a n Df)(e:Maps.has Df (.string d.data.toList)=fo)
  (j:w.ownsMap prog 9 (plainElem prog 29) b.mf m J)(f:Maps.has J (.string d.data.toList)=fm)(g:J.atKey (.string d.data.toList) (.lit<|.int .i64 0)=.lit (.int .i64 c)):
  ik 222 #[ie b.dr,hh d] w (PP (fY c) w):=by
 have h:=rfg (P:=prog) underlying9 (s:=d) (by unfold maxLen;omega);have k:fe (Maps.has J (.string d.data.toList)=fm):=f
 change fe _ at g e
 clear f;go_enter func222,ntmps222;go_wp2_with(first
  |(at_lookup;refine ble _ fX _ _ 182 fX 9 29 .i64 HL underlying182 underlying29 (rH _) a n Df fX i _ _ fX h ?_;intro x y z;rw[e.o])
  |(at_lookup;refine ble _ fX _ _ 182 fX 9 29 .i64 HL underlying182 underlying29 (rH _) b.mf m J fX j _ _ fX h ?_;intro c2 l A;rw[k.o];obtain rfl:c2=c:=by(have:=l.symm.trans g;simpa using this))
  |go_in)
 go_ret;exact⟨fX,fX⟩
theorem Du{b:DB}(o:ud w H b.dr a n h xs Y)(c:si w p b a n h)(e:w.ownsRow 0 213 4 (fy a n h) n xs)
  {f:Type}{P}{i:fu->Option (DataW f×List MemPlace)}{D:DataW f}(d:w.ownsMap P k i E m D):H.ownsMap P k i E m D/\H.c b.dr 2=fh (.map<|fh b.mf)/\H.c b.dr 3=fh (.map<|fh b.md):=by
 have⟨es,clock,j⟩:=pp d;have q:E≠b.dr:=by rintro rfl;unfold si at c;rw[j]at c;cases c
 have⟨g,R,l,_,_,_,_,_,_,r⟩:=o.facts c<|io e (b:=b.dr) c (by decide);exact⟨pB d<|r E d.lt q (rv e j),l.c.2.2.2.1,l.c.2.2.2.2.1⟩
theorem YM(p g:Nat)(b:DB)(Df J:DataW Unit)(n m:Nat)(a)(h)(xs)(q:ig)(t)(d:fP)(w:fq)(O:d.size<=256)(Q:w.c p 1=fh (.map<|fh g))(C:w.c p 0=fh (fy q n t))(D:p<w.heap.size)(E:b.dr≠p)(u:n<=400)(F:m<4000000)
  (c:si w p b a m h)(f:w.ownsRow 0 213 4 (fy a m h) m xs)(v:fh p≠(Value.slice a m h).ownBlock)(R:g≠b.mf)
  (G:w.ownsMap prog 9 (plainElem prog 29) g n Df)(x:Maps.has Df (.string d.data.toList)=fo)
  (i:w.ownsMap prog 9 (plainElem prog 29) b.mf m J)(y:Maps.has J (.string d.data.toList)=fo):
  ik 222 #[ie b.dr,hh d] w λe H=>e=fF (fY<|(n:Int)+((m+1:Nat):Int))/\
   zm w H p b a m h b.mf 9 (xs++[fY 1,hh d,fy fj 0 0,fY 0]) (J.put (.string d.data.toList)<|.lit (.int .i64<|(n:Int)+((m+1:Nat):Int))):=by
 have j:=rfg (P:=prog) underlying9 (s:=d) (by unfold maxLen;omega);have⟨es,clock,z⟩:=pp i;have⟨I,c0,c1,c2,c3,f1⟩:=c.c;have A:=io f (b:=b.dr) c (by decide);have k:=JZ b.dr p 1 0 d a m h xs fj 0 0 q n t w I D E F u c0 c1 f1 C f A v;have B:fe ((Lit.int .i64<|(n:Int)+((m+1:Nat):Int)).wf=fm):=Ww<|by omega
 change fe _ at x y z k c f
 clear v A u;obtain⟨r,l⟩:=ol ((n:Int)+((m+1:Nat):Int):Int);rw[<-l]at k B
 change fe _ at l
 go_enter func222,ntmps222;go_wp2_with(first
  |(at_lookup;refine ble _ fX _ _ 182 fX 9 29 .i64 HL underlying182 underlying29 (rH _) g n Df fX G _ _ fX j ?_;intro S T U;rw[x.o])
  |(at_lookup;refine ble _ fX _ _ 182 fX 9 29 .i64 HL underlying182 underlying29 (rH _) b.mf m J fX i _ _ fX j ?_;intro V W X;rw[y.o])
  |(go_at_call 223;refine RK k ?_;rintro e Y ⟨rfl,o⟩;have K:fe _:=o;obtain⟨L,Z,_⟩:=Du o c f i;clear o)
  |(at_mapUpdate;refine rll _ fX _ _ _ 182 fX 9 29 HL underlying182 _ b.mf m _ fX L (by unfold maxLen;omega) _ _ _ fX fX j _ [] (rts underlying29 B) ?_;intro aa M N)
  |go_in)
 go_ret;obtain rfl:=l;exact⟨fX,ud.aa0 K c f z M N⟩
def uN (o:Ob):Int×fP×List fV:=(o.kind,o.data,o.gh)
theorem findIdx_map{a b:Type}(f:a->b)(q:b->Bool):∀l:List a,(l.map f).findIdx? q=l.findIdx? λx=>q<|f x
 |[]=>rfl
 |x::r=>by rw[lM,cnf,cnf,findIdx_map f q r]
theorem Pt{a b:List Ob}(c:a.map uN=b.map uN)(d):fileAt a d=fileAt b d:=by
 have e:∀l:List Ob,fileAt l d=(l.map uN).findIdx? (λx=>decide (x.1=1)&&decide (x.2.1=d)):=λl=>by rw[findIdx_map];rfl
 rw[e,e,c]
theorem Tx{a b:List Ob}(c:a.map uN=b.map uN)(es):gI a es=gI b es:=by
 have e:∀l:List Ob,gI l es=(l.map uN).findIdx? (λx=>decide (x.1=2)&&decide (x.2.2=es)):=λl=>by rw[findIdx_map];rfl
 rw[e,e,c]
def Ty(a b:List Ob)(d:fP):fileAt (a++b) d=(fileAt a d).or ((fileAt b d).map (· + fv a)):=by
 unfold fileAt;rw[List.findIdx?_append]
def YN(a b:List Ob)(es:List fV):gI (a++b) es=(gI a es).or ((gI b es).map (· + fv a)):=by
 unfold gI;rw[List.findIdx?_append]
def yX (D:Nat->Prop)(w:fq)(p:Nat)(b:DB)(A a:List Ob):Prop:=
 ∃c T d h Df Dd,a=A++c/\T.map uN=c.map uN/\vN D w p b (fv A) d h Df Dd T
theorem yX.keep{D c:Nat->Prop}{b}{A a}(d:yX D w p b A a)(e:∀k,k<w.heap.size->D k->H.heap[k]?=w.heap[k]?)(f:∀k,k<w.heap.size->D k->c k):yX c H p b A a:=by
 have⟨g,T,i,h,Df,Dd,j,l,m⟩:=d;exact⟨g,T,i,h,Df,Dd,j,l,m.keep e f⟩
theorem yX.below{D}{b}{A a}(c:yX D w p b A a)(d:ju w H):yX (kA D w H) H p b A a:=c.keep (λk e _=>d.block k e) λk _ c=>.inl c
theorem LU{a D:Nat->Prop}(b:∀k,a k->¬D k){x y}(c:a x)(d:D y):x≠y:=λe=>b x c<|e▸d
theorem YO{v D:Nat->Prop}{b}{A a}(I:gQ ft v w s p A)(r:∀k,v k->¬D k)(y:yX D w p b A a)(J:fv a<4000000)(d:fP)(l:d.size<=256):
  ik 222 #[ie b.dr,hh d] w λe H=>e=fF (fY (ki a d).1)/\yX (kA D w H) H p b A (ki a d).2/\fH D w H:=by
 have⟨K,L,m,ab,Df,Dd,i⟩:=I;have M:=y;obtain⟨g,T,z,h,B,ac,rfl,t,c⟩:=y;have same:∀H,H=w->yX (kA D w H) H p b A (A++g)/\fH D w H:=by
  intro H e;subst e;exact⟨M.below<|mi _ _,fH.fJ<|mi _ _⟩
 have⟨C,c0,c1,c2,_⟩:=c.hd.c;have E:m≠b.mf:=LU r i.ff c.df;have ad:fv T=fv g:=by have:=congrArg List.length t;simpa using this
 have⟨j,N⟩:=i.lZ d;have⟨n,O⟩:=c.lZ d;have f:=Ty A g d;rw[<-Pt t d]at f;unfold ki;cases u:fileAt A d with
 |some x=>
  rw[u]at j f;rw[f];apply (Tw p m b Df (fv A) d ((x:Int)+1) w l C c0 i.gR.at_.c1 i.files j<|N x u).mono
  grind
 |none=>
  rw[u]at j f;cases q:fileAt T d with
  |some x=>
   rw[q]at n f;rw[f];apply (Pr p m b Df B (fv A) (fv T) d _ w l C c0 i.gR.at_.c1 c2 E i.files j c.files n<|O x q).mono
   grind
  |none=>
   rw[q]at n f;have P:fileAt (A++g) d=fj:=f;rw[P];have Q:=i.gR.at_.lt;have S:b.dr≠p:=(LU r i.fp c.dd).symm;have U:fh p≠(Value.slice z (fv T) h).ownBlock:=λe=>r p i.fp<|c.da p e.symm
   have V:fv T<4000000:=by simp only[lI]at J;omega
   apply (YM p m b Df B (fv A) (fv T) z h (gD T) K L d w l i.gR.at_.c1 i.gR.at_.c0 Q S i.gR.many V c.hd c.row U E i.files j c.files n).mono;rintro e H ⟨ae,F⟩;have⟨es0,af,W⟩:=pp c.files;have G:=F;have⟨_,_,_,_,_,X,_⟩:=F;have⟨Y,R,Z,aa⟩:=c.grow (o:=xr d) G c.df W (.inl ⟨fX,fX,l⟩) fX X (c.lZ.put c.files.isMap d q fX fX) ((G.other c.hd c.row c.rL c.ne.symm).mono<|jh _)<|c.oh.other (show(1:Int)≠2 by decide);refine⟨?_,⟨g++[xr d],T++[xr d],Y,R,_,_,(sL _ _ _),by rw[nh,nh,t],Z⟩,aa⟩
   grind
theorem YP{a}(b:w.ownsRow a 96 3 v (fv es) (flat es)):∃d e,v=fy d (fv es) e:=by
 rcases b.2 with⟨rfl,f⟩|⟨g,c,h,rfl,_⟩
 exact⟨fj,0,by rw[f]⟩;exact⟨_,_,fX⟩
theorem Pu(a:w.ownsRow 0 96 3 v (fv es) (flat es))(b:fv es<=16):
  ik 111 #[v] w (ut (fD<|kv es) w):=by
 rcases a.2 with⟨rfl,d⟩|⟨g,c,e,rfl,_⟩
 obtain rfl:es=[]:=DY.1 d;exact Da w;exact Ax g (fv es) c es w fX (gc a fX) b<|ks a
def acA (w H:fq)(p:Nat)(b:DB)(Dd J:DataW Unit)(n m:Nat)(a:ig)(h:Nat)(xs:iN)(es:List fV)(e:Ending):Prop:=
 (∃c,Maps.has Dd (pj prog es)=fm/\Dd.atKey (pj prog es) (.lit<|.int .i64 0)=.lit (.int .i64 c)/\e=fF (.int .i64 c)/\Below w.heap.size w H)\/
 (∃c,Maps.has Dd (pj prog es)=fo/\Maps.has J (pj prog es)=fm/\J.atKey (pj prog es) (.lit<|.int .i64 0)=.lit (.int .i64 c)/\e=fF (.int .i64 c)/\Below w.heap.size w H)\/
 (Maps.has Dd (pj prog es)=fo/\Maps.has J (pj prog es)=fo/\e=fF (.int .i64<|(n:Int)+((m+1:Nat):Int))/\∃d f,H.ownsRow 0 96 3 (fy d (fv es) f) (fv es) (flat es)/\(∀g,(Value.slice d (fv es) f).ownBlock=fh g->w.heap.size<=g)/\
  zm w H p b a m h b.md 208 (xs++[.int .i64 2,fA ByteArray.empty,fy d (fv es) f,.int .i64 0]) (J.put (pj prog es)<|.lit (.int .i64<|(n:Int)+((m+1:Nat):Int))))
theorem Tz{b}{m h f:Nat}{c:Array fu}(d:si W p b a m h)(g:W.ownsRow 0 213 4 (fy a m h) m xs)(j:W.ownsMap prog 208 (plainElem prog 29) b.md m J)
  (e:W.heap[f]?=fh (.cells c 208 (0,0)))(i:ud W w5 b.dr a m h xs Y)(k:c.size=48):
  w5.c b.dr 3=fh (.map<|fh b.md)/\(loadVar 208<|ii f 0).run prog w5.drew=.ok (fD c) w5.drew/\
   fe (w5.drew.ownsMap prog 208 (plainElem prog 29) b.md m J):=by
 have l:=og e d (by decide);have⟨t,u,v,w,x,y,z,A,B,n⟩:=i.facts d<|io g (b:=b.dr) d (by decide);have⟨o,_,q⟩:=Du i d g j;have r:=(n _ (lW.1 e).1 l<|io g e (by decide)).trans e;have s:=rws (P:=prog) w5.drew f 208 208 c (0,0) _ r underlying208 fX (by rw[k];exact oc);exact⟨q,s,o.drew⟩
theorem YQ(p t:Nat)(b:DB)(Dd J:DataW Unit)(n m:Nat)(a)(h)(xs)(ad:ig)(ae)(v)(es:List fV)(w:World)(K:w.ownsRow 0 96 3 v es.length (flat es))(j:wM es)
  (L:p<w.heap.size)(af:w.cell? (ii p 2)=some (.map<|some t))(ag:w.cell? (ii p 0)=some (.slice ad n ae))(aN:b.dr≠p)(aO:n<=400)(aP:m<4000000)
  (M:si w p b a m h)(ah:w.ownsRow 0 213 4 (.slice a m h) m xs)(ai:some p≠(Value.slice a m h).ownBlock)
  (aj:w.ownsMap prog 208 (plainElem prog 29) t n Dd)(z:w.ownsMap prog 208 (plainElem prog 29) b.md m J):
  ik 199 #[ie b.dr,v] w λe H=>acA w H p b Dd J n m a h xs es e:=by
 have ak:=Pu K j.1;have A:Hid ((kv es).size=48):=kP j.1;have N:=lg es j.1 λe aQ=>(j.2 e aQ).1;have⟨O,c0,c1,c2,c3,f1⟩:=M.c;have al:Hid (w.ownsRow 0 96 3 v es.length<|flat es):=K;have am:Hid (w.ownsRow 0 213 4 (.slice a m h) m xs):=ah;have aR:Hid (es.length<=16):=j.1
 change Hid _ at M ai
 clear K ah j;go_enter func199,ntmps199;go_wp2_with (first
  | (go_at_call 111;refine ak.via λd Q=>?_)
  | (refine rop fX 208 _ _ fX d.heap.size (kv es) fX fX 208 _ (nX d _) (by rw[A.o];exact oc) (by rw[A.o];rfl) (qa es) ?_;rw[vt]))
 have k:ju w (d.alloc<|.cells (kv es) 208):=Q.alloc Q.size _;have R:(d.alloc<|.cells (kv es) 208).heap[d.heap.size]? = some (.cells (kv es) 208 (0,0)):=nX d _;have an:(d.alloc<|.cells (kv es) 208).ownsMap prog 208 (plainElem prog 29) t n Dd:=pB aj<|k.block t aj.lt;have ao:(d.alloc<|.cells (kv es) 208).ownsMap prog 208 (plainElem prog 29) b.md m J:=pB z<|k.block b.md z.lt;have hcW:=λx o(S:x<w.heap.size)=>k.cell (p:=(ii x o)) S;have aS:=(hcW b.dr 0 O).trans c0;have ap:=(hcW b.dr 3 O).trans c3;have aT:=(hcW p 2 L).trans af;have⟨c,aq,ar,aU⟩:=Ay (W:=λq=>(d.alloc (.cells (kv es) 208)).drewN q) (λq=>an) N;have⟨B,au,av,aV⟩:=Ay (W:=λq=>(d.alloc (.cells (kv es) 208)).drewN q) (λq=>ao) N;have T:=λq=>rws (P:=prog) ((d.alloc<|.cells (kv es) 208).drewN q) d.heap.size 208 208 (kv es) (0,0) _ R underlying208 fX (by rw[A.o];exact oc)
 go_frame
 have aw:Hid ((d.alloc<|.cells (kv es) 208).heap[d.heap.size]? = some (.cells (kv es) 208 (0,0))):=R;clear R ao an ak c0 c1 c2 c3 af f1 hcW Q;generalize d.alloc (.cells (kv es) 208)=W at *;apply Wz (by kernel_rfl)<|by kernel_rfl
 iterate 7 quiet_step (fail)
 refine lY fX 208 _ fX d.heap.size fX (kv es) (by rintro _ ⟨q,rfl⟩;exact T q) ?_
 go_frame
 refine qF fX 183 _ _ true fX (.map<|some t) (.agg<|kv es) (.tuple #[fY c,.bool<|Maps.has Dd (pj prog es)]) fX fX (by rintro _ ⟨q,rfl⟩;exact aq q) ?_
 go_frame
 repeat (quiet_step (fail))
 apply Rx;rintro _ ⟨nq,rfl⟩
 change Hid _ at ar av
 clear aq aU aV;cases C:Maps.has Dd (pj prog es) with
 | true=>
  have D:Hid (Maps.has Dd (pj prog es)=true):=C;clear C;go_wp2;go_ret;exact .inl ⟨c,D,ar,fX,iP k _⟩
 | false=>
  have D:Hid (Maps.has Dd (pj prog es)=false):=C;clear C;have ax:∀q,(Instr.lookup 183 (.map<|some b.md) (.agg<|kv es) true).run prog ((W.drewN nq).drewN q)=.ok (.tuple #[fY B,.bool<|Maps.has J (pj prog es)]) ((W.drewN nq).drewN q):=λq=>by rw[Ea];exact au _
  have ay:∀q,(loadVar 208<|ii d.heap.size 0).run prog ((W.drewN nq).drewN q)=.ok (.agg<|kv es) ((W.drewN nq).drewN q):=λq=>by rw[Ea];exact T _
  have aW:(W.drewN nq).cell? (ii b.dr 3)=some (.map<|some b.md):=ap;go_wp2;apply Wz (by kernel_rfl)<|by kernel_rfl
  iterate 4 quiet_step (fail)
  refine lY fX 208 _ fX d.heap.size fX (kv es) (by rintro _ ⟨q,rfl⟩;exact ay q) ?_
  go_frame
  refine qF fX 183 _ _ true fX (.map<|some b.md) (.agg<|kv es) (.tuple #[fY B,.bool<|Maps.has J (pj prog es)]) fX fX (by rintro _ ⟨q,rfl⟩;exact ax q) ?_
  go_frame
  repeat (quiet_step (fail))
  apply Rx;rintro _ ⟨aX,rfl⟩;rw[Ea];generalize nq+aX=E;clear ax ay aW au T;cases F:Maps.has J (pj prog es) with
  | true=>
   have U:Hid (Maps.has J (pj prog es)=true):=F;clear F;go_wp2;go_ret;exact .inr<|.inl ⟨B,D,U,av,fX,iP k _⟩
  | false=>
   have U:Hid (Maps.has J (pj prog es)=false):=F;clear F;have V:ju w (W.drewN E):=iP k E;have aY:=vJ (w:=W.drewN E) (gg al.o λg f=>V.block g<|gc al.o f) aR.o;go_wp2_with fail;apply RK aY;rintro e u ⟨bh,rfl,X,az,aA⟩;obtain⟨aB,aC,rfl⟩:=YP X;have l:=gS V aA;have y:Hid _:=X;have aD:=λx o(S:x<w.heap.size)=>l.cell (p:=(ii x o)) S;have G:si u p b a m h:=by
    have:=M.o
    unfold si at this |-;rwa [l.block _ O]
   have I:u.ownsRow 0 213 4 (.slice a m h) m xs:=gg am λg f=>l.block g<|gc am f;have Y:u.ownsMap prog 208 (plainElem prog 29) b.md m J:=pB z<|l.block b.md z.lt;have⟨aZ,d0,d1,d2,d3,aE⟩:=G.c;have aF:=io I (b:=b.dr) G (by decide);have Z:=JZ b.dr p 2 0 ByteArray.empty a m h xs aB es.length aC ad n ae u aZ (np L l.size) aN aP aO d0 d1 aE ((aD p 0 L).trans ag) I aF ai;have aG:u.heap[d.heap.size]? = some (.cells (kv es) 208 (0,0)):=(aA.block d.heap.size<|show d.heap.size<(W.drewN E).heap.size from (lW.1 aw).1).trans aw;have⟨bi,bj,aH⟩:=pp Y;have i:Hid _:=And.intro G<|And.intro I (And.intro Y<|And.intro aG aH);have⟨r,aa⟩:=ol ((n:Int)+((m+1:Nat):Int):Int);have bb:Hid ((Lit.int .i64 r).wf=true):=Ww (by omega);rw[<-aa] at Z
   change Hid _ at az aa
   clear X aD G I Y aF aG aH aS ap aT d0 d1 d2 d3 aE ag;go_wp2_with fail;refine Calls.via Z λw5 ab=>?_
   have⟨bk,bc,bd⟩:=Tz i.1 i.2.1 i.2.2.1 i.2.2.2.1 ab A;have be:Hid _:=ab;clear ab Z;go_wp2;apply hw1 6 (by kernel_rfl) (by kernel_rfl);simp only[Rn,KU,KQ,Ce]
   iterate 4 still_step
   apply pg fX 208 _ fX d.heap.size fX (kv es) bc
   go_frame
   still_step
   apply iff;refine rll _ fX _ _ _ 183 fX 208 29 EW underlying183 _ b.md m _ fX bd (by unfold maxLen;omega) _ _ _ fX fX N _ [] (rts underlying29 bb) ?_;intro bl aI aJ;have s:Hid _:=And.intro aI aJ;clear aI aJ;go_wp2;go_ret;obtain rfl:=aa;have aK:=ud.aa0 be i.1 i.2.1 i.2.2.2.2 s.1 ⟨s.2.os,s.2.tape,s.2.output,s.2.size,s.2.block⟩;refine .inr (.inr ⟨D,U,fX,aB,aC,?_,λg f=>wy V.size<|az g f,zm.before l aK⟩);have⟨bm,bn,_,_,_,_,bf⟩:=aK;refine gg y λg f=>?_;have aL:=io y (b:=b.dr) i.1 (by decide);have aM:=rv y i.2.2.2.2;rw[f] at aL aM;apply bf.block g (gc y f) (λe=>aL (by rw[e])) λe=>aM (by rw[e]);rcases y.2 with ⟨ac,_⟩ | ⟨bo,B,bp,ac,_,bg,_⟩
   rw[ac] at f;simp[Value.ownBlock] at f;rw[ac] at f;simp only[Value.ownBlock,pV] at f;subst f;exact io i.2.1 bg<|by decide
theorem hjl{G D:Nat->Prop}{b}{A a}(P:gQ ft G w s p A)(I:∀k,G k->¬D k)(J:yX D w p b A a)(Q:fv a<4000000)(v)(es:List fV)(S:w.ownsRow 0 96 3 v (fv es) (flat es))(r:wM es)(U:iD es):
  ik 199 #[ie b.dr,v] w λe H=>e=fF (fY (kG a es).1)/\yX (kA D w H) H p b A (kG a es).2/\fH D w H:=by
 have⟨V,W,am,X,Df,Dd,i⟩:=P;have Y:=J;obtain⟨f,T,K,h,an,Z,rfl,C,d⟩:=J;have same:∀H,ju w H->yX (kA D w H) H p b A (A++f)/\fH D w H:=λH n=>⟨Y.below n,fH.fJ n⟩;have ao:fv T=fv f:=by have:=congrArg List.length C;simpa using this
 have⟨j,aa⟩:=i.oh es r;have⟨t,ab⟩:=d.oh es r;have l:=YN A f es;rw[<-Tx C es]at l;have ac:b.dr≠p:=(LU I i.fp d.dd).symm;have ad:fh p≠(Value.slice K (fv T) h).ownBlock:=λe=>I p i.fp<|d.da p e.symm;have ae:fv T<4000000:=by simp only[lI]at Q;omega
 apply (YQ p X b Dd Z (fv A) (fv T) K h (gD T) V W v es w S r i.gR.at_.lt i.gR.at_.c2 i.gR.at_.c0 ac i.gR.many ae d.hd d.row ad i.rL d.rL).mono;unfold kG;rintro e H (⟨c,u,E,y,n⟩|⟨c,u,F,E,y,n⟩|⟨u,F,y,ea,ec,L,af,M⟩);rw[u]at j;rcases m:gI A es with _|x
 rw[m]at j;cases j;rw[m]at l;have z:gI (A++f) es=fh x:=l;rw[z];have B:=(aa x m).symm.trans E;refine⟨?_,same H n⟩;rw[y];simp only[DataW.lit.injEq,Lit.int.injEq,true_and]at B;rw[<-B];rw[u]at j;rw[F]at t;have m:gI A es=fj:=by simpa using j.symm
 rcases q:gI T es with _|x
 rw[q]at t;cases t;rw[m,q]at l;have z:gI (A++f) es=fh (x+fv A):=l;rw[z];have B:=(ab x q).symm.trans E;refine⟨?_,same H n⟩;rw[y];simp only[DataW.lit.injEq,Lit.int.injEq,true_and]at B;rw[<-B];simp only
 congr 2
 omega;rw[u]at j;rw[F]at t;have m:gI A es=fj:=by simpa using j.symm
 have q:gI T es=fj:=by simpa using t.symm
 rw[m,q]at l;have z:gI (A++f) es=fj:=l;rw[z];have⟨es0,ap,ag⟩:=pp d.rL;have N:=M;have⟨_,_,_,_,_,ah,_⟩:=M
 let o:Ob:={ kind:=2,data:=ByteArray.empty,ea:=ea,el:=fv es,ec:=ec,gh:=es,high:=0 }
 have ai:wD H (kA D w H) o:=.inr ⟨fX,fX,r,U,wC _,by show(0:Int)<=5;decide,λg O=>.inr ⟨af g O,gc L O⟩,L⟩;have⟨aj,R,ak,al⟩:=d.grow (o:=o) N d.dm ag ai fX ((N.other d.hd d.row d.files d.ne).mono<|jh _) (d.lZ.other (show(2:Int)≠1 by decide)) ah<|d.oh.put d.rL.isMap r q fX fX;refine⟨?_,⟨f++[Ls es<|gy (A++f) es],T++[o],aj,R,_,_,(sL _ _ _),by rw[nh,nh,C];rfl,ak⟩,al⟩;rw[y];simp only[lI]
 congr 2
 omega
theorem Dv:∀{xs b:List fV},iD xs->iD b->xs.Perm b->xs=b
 |[],b,_,_,a=>(List.nil_perm.1 a).symm▸rfl
 |x::xs,[],_,_,a=>absurd a<|by simp
 |x::xs,y::b,c,d,a=>by
  have⟨h,e⟩:=sB.1 c
  obtain⟨i,f⟩:=sB.1 d
  have g:x=y:=by
   have j:x∈y::b:=a.mem_iff.1 (by simp);have k:y∈x::xs:=a.mem_iff.2<|by simp
   grind [IV,lX,rJ]
  subst g;rw[Dv e f<|List.Perm.cons_inv a]
def Ob.core (o:Ob):Int×fP×List fV×Int:=(o.kind,(if o.kind=1 then o.data else⟨#[]⟩),(if o.kind=2 then o.gh else []),o.high)
def jg (x y:List Ob):Prop:=x.map Ob.core=y.map Ob.core
def jg.len(a:jg x y):fv x=fv y:=by have:=congrArg List.length a;simpa using this
theorem jg.get(a:jg x y)(i:Nat):(x[i]?).map Ob.core=(y[i]?).map Ob.core:=by
 have:=congrArg (λl=>l[i]?) a
 grind
theorem jg.snoc(b:jg x y){o a:Ob}(c:o.core=a.core):jg (x++[o]) (y++[a]):=by
 grind [jg]
theorem jg.kind(b:jg x y)(id:Int):fK x id=fK y id:=by
 have a:=b.get (id-1).toNat;unfold fK;cases c:x[(id-1).toNat]?<;>cases d:y[(id-1).toNat]?<;>rw[c,d]at a<;>simp[Ob.core]at a |-;rw[a.1]
theorem jg.high(b:jg x y)(id:Int):gu x id=gu y id:=by
 have a:=b.get (id-1).toNat;unfold gu;cases c:x[(id-1).toNat]?<;>cases d:y[(id-1).toNat]?<;>rw[c,d]at a<;>simp[Ob.core]at a |-;rw[a.2.2.2]
theorem jg.gh(d:jg x y)(a:fK x id=2):fQ x id=fQ y id:=by
 obtain⟨e,_⟩:=nl (by rw[a];decide);have b:=d.get (id-1).toNat;unfold fK at a;rw[lv e]at a;unfold fQ;cases c:x[(id-1).toNat]?<;>cases f:y[(id-1).toNat]?<;>rw[c,f]at b<;>simp[Ob.core]at b |-;rw[c]at a;simp at a
 grind
theorem YR(o:Ob)(d:fP):(decide (o.kind=1)&&decide (o.data=d))=(decide (o.core.1=1)&&decide (o.core.2.1=d)):=by
 grind [Ob.core]
theorem hjn(o:Ob)(es:List fV):(decide (o.kind=2)&&decide (o.gh=es))=(decide (o.core.1=2)&&decide (o.core.2.2.1=es)):=by
 grind [Ob.core]
theorem jg.file(a:jg x y)(d):fileAt x d=fileAt y d:=by
 have e:∀l:List Ob,fileAt l d=(l.map Ob.core).findIdx? (λx=>decide (x.1=1)&&decide (x.2.1=d)):=λl=>by
  rw[findIdx_map];unfold fileAt
  congr 1
  funext o
  exact YR o d
 rw[e,e,a]
theorem jg.dir(a:jg x y)(es):gI x es=gI y es:=by
 have e:∀l:List Ob,gI l es=(l.map Ob.core).findIdx? (λx=>decide (x.1=2)&&decide (x.2.2.1=es)):=λl=>by
  rw[findIdx_map];unfold gI
  congr 1
  funext o
  exact hjn o es
 rw[e,e,a]
theorem jg.gy(b:jg x y)(es):gy x es=gy y es:=by
 unfold YtlgidcmmgohagaaGreat.gy
 congr 1
 funext a e
 rw[b.high]
def jg.good(a:jg x y)(e):EQ x e=EQ y e:=by
 unfold EQ;rw[a.kind]
theorem jg.sound(a:jg x y)(b:Sound y):Sound x:=by
 refine⟨λid=>by rw[a.high];exact b.1 id,λid c=>?_⟩;have d:=c;rw[a.kind]at d;have⟨f,g,h⟩:=b.2 id d;rw[a.gh c];refine⟨f,g,λe i=>?_⟩;rw[a.kind,a.high,a.high];exact h e i
theorem jg.exact(a:jg x y)(c:Exact y):Exact x:=by
 refine⟨a.sound c.sound,λo g=>?_,λid b=>?_,λid b=>?_⟩;obtain⟨i,U,rfl⟩:=rD g;have d:=a.get i;have e:i<fv y:=by rw[<-a.len];exact U
 rw[jH U,jH e]at d;simp only[oV,pV,Ob.core,vo]at d;rw[d.1];exact c.kinds _<|kN e;rw[a.high];rw[a.kind]at b;exact c.low id b;have f:=b;rw[a.kind]at f;rw[a.high,a.gy,a.gh b];exact c.high id f
def xI(a:fO es):iD es:=a
theorem Gj{x a}(b:jg x a)(d:yZ a o)(j:o.kind=1)(k:fv x<400)(f:lz x x' o.data e):(∃i,e=pD #[fY i,fY 0])/\(∃l,x'=x++l)/\jg x' (a++[o]):=by
 rcases d.or with⟨_,m,n,g⟩|⟨p,_⟩
 rcases f with⟨q,_⟩|⟨_,_,i,c,_⟩|⟨_,_⟩|⟨_,_,_,rfl,h⟩
 omega;rw[b.file,g]at c;cases c;omega;refine⟨⟨_,h⟩,⟨_,fX⟩,b.snoc ?_⟩
 grind [Ob.core,xr]
 omega
theorem Iw{x a}(c:jg x a)(g:yZ a o)(h:o.kind=2)(v:fv x<400)(j:jw x x' o.gh e):(∃i,e=pD #[fY i,fY 0])/\(∃l,x'=x++l)/\jg x' (a++[o]):=by
 rcases g.or with⟨w,_⟩|⟨_,k,z,d,A,B,m⟩
 omega;have C:∀y∈o.gh,EQ x y=fm:=by
  intro y f;rw[c.good]
  grind [EQ]
 have nZ:(o.gh.map (·.1)).Nodup:=vX<|xI d;rcases j with⟨⟨y,f,b⟩,_⟩|⟨_,⟨b,_⟩|⟨_,b,_⟩|⟨_,_,⟨y,f,b⟩,_⟩|⟨_,_,_,D,n,p,E,q⟩⟩
 grind
 grind
 omega
 grind
 obtain rfl:=Dv p (xI d) n;rcases q with⟨b,_⟩|⟨_,_,i,b,_⟩|⟨_,_,b,_⟩|⟨_,_,_,⟨F,r,s,t,rfl⟩,u⟩
 rw[c.gy]at b;omega;rw[c.dir,m]at b;cases b;omega;refine⟨⟨_,u⟩,⟨_,fX⟩,c.snoc ?_⟩;unfold Ob.core;rw[r,s,t,h,k,c.gy];simp
