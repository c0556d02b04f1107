/- A part of the proof. -/
import Derived.Test.YtlgidcmmgohagaaGreatAllM16
set_option linter.all false
namespace Go.Proofs.YtlgidcmmgohagaaGreat
open Go.RowKit Go.Sort Go.Shelf Go.Proofs.Tryz
open Go.Value renaming slice->fy,string->fA,pointer->fB,tuple->fC,agg->fD,bool->fE
open Go.Ending renaming returned->fF
open Option renaming some->fh,none->fj
open Bool renaming true->fm,false->fo
open Go renaming World->fq,Value->fu
open List renaming length->fv,reverse->fx
open Go.RowKit renaming Hid->fe
set_option maxRecDepth 100000
set_option maxHeartbeats 0
variable {fs' Ts:b6}{N N' b R h clock f i k I jW m n n0 ow p s:Nat}{W W' w J w0 w1 w2 w5:fq}{o:Ob}{er fg id pl:Int}{Y xs:gX}{t t':LT}{d:fO}{a ms A x x' y:List Ob}{Dd Df O:DataW Unit}{es:List fV}{e:Ending}{v:fu}{D D' F:Nat->Prop}{E:Array MapEntry}{g:WG}{T M:gC}{q r:fQ}
variable {s i p:Nat}{B:WB}{A:List Ob}{ft:kE}
theorem jq.zZ{d}{e:Bool}(f:jq T w s p A d e I)(g:fJ A id=1):(bytesOf A id).size<=256:=by
 obtain⟨j,k⟩:=Bt (A:=A) (id:=id) (by omega);obtain⟨b,rfl⟩:∃b:Nat,id=(b:Int)+1:=⟨(id-1).toNat,by omega⟩;have c:b<fv A:=by omega
 obtain⟨_,ft,_,⟨a,h,l,m,Df,Dd,i⟩,_⟩:=f;rw[FO c];rw[xa c]at g;rcases i.zx A[b] (kK c) with⟨_,_⟩|⟨n,_⟩
 all_goals omega
theorem Pp{a}{fs Ts:b6}(b:AC A a fs f=(Ts,0,d)):AC A a Ts f=(Ts,0,d):=by
 grind [AC,vw,hid,b6.De,b6.gO,decide]
theorem CJ(c:fZ T w s i p B A g I)(e:vV A g.fl)(a:AC A g.fl g.fs f=(Ts,er,d)):d.size<=256:=by
 unfold AC at a;rcases b:g.fl f with _|x
 rw[b]at a;simp only[vw]at a;rw[<-a.2.2];simp[ByteArray.size];have⟨id,d0⟩:=x;rw[b]at a;simp only at a;by_cases hid:id=0;rw[lv hid]at a;simp only[vw]at a;rw[<-a.2.2];exact(c.wp.files f id d0 b).2.2;rw[km hid]at a;split at a;simp only[vw]at a;rw[<-a.2.2];exact c.st.zZ<|e f id d0 b hid
 grind [vw,ByteArray.size]
theorem RK(a:fZ T w s i p B A g I)(c:g.op k=fh (b,f,fg,pl)):b<w.heap.size/\w.c b 0=fh (ii f)/\w.c b 1=fh (fY fg)/\w.c b 2=fh (fY pl)/\(∀o,w.frozen? (ie b o)=fo):=by
 have⟨_,_⟩:=a.wp.opens.at_ k b f fg pl c
 grind [lH,World.cell?,ptr,World.frozen?]
theorem Gh(b:fZ T w s i p B A g I){x:Int×fO}(c:g.fl f=fh x):f<w.heap.size/\(∃x y z,w.c f 0=fh x/\w.c f 1=fh y/\w.c f 2=fh z)/\∀o,w.frozen? (ie f o)=fo:=by
 have⟨id,d⟩:=x;have⟨_,a,_⟩:=b.wp.files f id d c;exact⟨(lH.1 a).1,⟨_,_,_,by simp[World.cell?,a];rfl,by simp[World.cell?,a];rfl,by simp[World.cell?,a];rfl⟩,λo=>by simp[World.frozen?,a]⟩
def hjl(t:Nat×Nat)(a:t=(i,7)):Mine i t:=.inr (by rw[a])
theorem YD(a:fZ T w s i p B A g I)(j:I<1099511627776)(l:vV A g.fl){fg pl n:Int}(c:g.op k=fh (b,f,fg,pl))(m:(bits BinOp.and IntKind.i64 fg 1==0)=fo)(o:1<=n)(q:pl<256)(r:AC A g.fl g.fs f=(Ts,er,d))(t:er≠0):
  ik 125 #[ii b,fY n] w λe J=>e=qr #[hZ kq,fY er]/\mm s i p B A T w J { g with fs:=Ts } (I+1):=by
 have⟨y,c0,c1,c2,_⟩:=RK a c;have⟨_,_,⟨x,u⟩,_,_,v,_⟩:=a.wp.opens.at_ k b f fg pl c;have h:=nU a j l u;rw[r]at h;exact haj b f fg pl n er d _ w c0 c1 c2 m o v q t h
theorem hjn(a:fZ T w s i p B A g I)(r:I<1099511627776)(j:vV A g.fl){fg pl n:Int}(c:g.op k=fh (b,f,fg,pl))(t:(bits BinOp.and IntKind.i64 fg 1==0)=fo)(u:1<=n)(v:pl<256)(l:AC A g.fl g.fs f=(Ts,0,d)):
  ik 125 #[ii b,fY n] w λe J=>e=qr #[fA<|d.extract (min pl.toNat d.size) (min (min pl.toNat d.size+(min n<|256-pl).toNat) d.size),fY 0]/\
   ∃M,fI (Mine i) T M w J/\fZ M J s i p B A { g with fs:=Ts,op:=pD g.op k (fh (b,f,fg,pl+(d.extract (min pl.toNat d.size)<|min (min pl.toNat d.size+(min n<|256-pl).toNat) d.size).size)) } (I+1):=by
 have⟨G,c0,c1,c2,_⟩:=RK a c;have⟨_,_,⟨x,y⟩,_,_,z,_⟩:=a.wp.opens.at_ k b f fg pl c;have m:=nU a r j y;rw[l]at m;refine(kna b f fg pl n d _ w c0 c1 c2 t u z v (CJ a j l) m λw1 C=>?_).mono ?_;have⟨o,q,h⟩:=C;have⟨H,_⟩:=RK h c
 grind
 rintro e J ⟨D,w1,⟨o,q,h⟩,rfl⟩;have K:((d.extract (min pl.toNat d.size)<|min (min pl.toNat d.size+(min n<|256-pl).toNat) d.size).size:Int)<=256-pl:=by
  grind [hBN]
 have⟨E,F⟩:=h.place c (VG:=pl+(d.extract (min pl.toNat d.size)<|min (min pl.toNat d.size+(min n<|256-pl).toNat) d.size).size) (by omega) (by omega);exact⟨D,o,(q.mono λ_ a=>a.mine).trans<|E.mono hjl,F⟩
theorem YE(c:fZ T w s i p B A g I)(V:I+2<1099511627776)(q:vV A g.fl){k b f a:Nat}{d h:fO}(l:g.op k=fh (b,f,fg,pl))(H:(bits BinOp.and IntKind.i64 fg 2==0)=fo)(C:1<=d.size)(K:0<=gT fg pl 0)(L:gT fg pl 0+d.size<=256)(r:AC A g.fl g.fs f=(Ts,0,h))(N:gT fg pl h.size=(a:Int))(W:a+d.size<=256):
  ik 123 #[ii b,hZ d] w λe J=>e=fF (fY 0)/\
   ∃M,fI (Mine i) T M w J/\fZ M J s i p B A { g with fs:=Ts,fl:=pD g.fl f<|fh (0,ue h d a),op:=pD g.op k (fh (b,f,fg,(a:Int)+d.size)) } (I+2):=by
 have⟨X,c0,c1,c2,_⟩:=RK c l;have⟨_,_,⟨x,o⟩,_⟩:=c.wp.opens.at_ k b f fg pl l;have O:=CJ c q r;have D:=nU c (by omega) q o;rw[r]at D;have P:(ue h d a).size<=256:=by
  grind [ue,xw,ByteArray.size,zf,Cg]
 refine(hbL b f fg pl (a:Int) h d (λw1=>mm s i p B A T w w1 { g with fs:=Ts }<|I+1) (λw2=>∃M,fI (Mine i) T M w w2/\fZ M w2 s i p B A { g with fs:=Ts,fl:=pD g.fl f (fh (0,ue h d a)) } (I+2)) w c0 c1 c2 H C K L N (by omega) (by omega) D (λw1 t=>?_) (λw1 t=>?_) λw2 Q=>?_).mono ?_;have⟨R,E,u⟩:=t;have⟨_,Y,Z,aa,_⟩:=RK u l
 grind
 have⟨R,E,u⟩:=t;have F:=nU u (by omega) q o;have S:=Pp r;rw[S]at F;refine(OG f a h d _ w1 C (by omega) O F λw2 U=>?_).mono ?_;have⟨m,n,j⟩:=U;exact Gh j o;rintro e J ⟨v,w2,ab,⟨m,n,j⟩,G,rfl⟩;have⟨y,z⟩:=(j.below G).Ge o P;exact⟨v,m,((E.mono λ_ c=>c.mine).trans (n.mono λ_ c=>c.mine)).trans<|(fI.fK G).trans (y.mono Pn),z⟩;have⟨m,n,j⟩:=Q;have⟨ac,_⟩:=RK j l
 grind
 rintro e J ⟨v,w2,⟨m,n,j⟩,rfl⟩;have⟨y,z⟩:=j.place l (VG:=(a:Int)+d.size) (by omega) (by omega);exact⟨v,m,n.trans<|y.mono hjl,z⟩
def i64 (x:Int):Prop:=-9223372036854775808<=x/\x<=9223372036854775807
def opT (g:WG):Nat->Option Nat:=λk=>(g.op k).map (·.1)
def ult(a:fZ T w s i p B A g I):nO w B.wb (opT g)/\w.c B.wb 0=fh (ii B.bt):=a.wp.opens.tab
theorem CB.aaW{of:fQ->Option Nat}(c:CB T w i B of I)(a:Good q)(d:ju w W):
  (Instr.lookup 161 (.map<|fh B.oF) (fD<|jn q) fo).run prog W=.ok (((of q).map ptr).getD<|fB fj) W:=by
 obtain⟨_,⟨n,_,e,b,f,_⟩,_⟩:=c
 have:=(b.keep (J:=W)<|d.block _ b.lt).look yT underlying161 (LQ W)<|Bu a
 have g:e (qm prog q)=(of q).map ptr:=f q a;rw[g]at this;exact this
theorem tC{a:Nat×Nat->Prop}{o:Obj}(f:¬a (0,0))(e:T b=(0,0))(m:fI a T M W J)(c:W.heap[b]?=fh o):J.heap[b]?=fh o/\M b=(0,0):=by
 have d:=(lH.1 c).1;exact⟨(m.block b d (by grind)).trans c,(m.tags b d).trans e⟩
theorem pS(U:2<=i):¬gA i (0,0):=by
 rintro(a|a|a)
 all_goals grind
theorem Pq{o}(a:w.grownBy J (fh b)):w.grownBy (J.alloc o) (fh b):=by
 have⟨c,d,e,f,g⟩:=a;refine⟨c,d,e,by simp;omega,λk h i=>?_⟩
 all_goals grind [sK,nz]
def lp (w:fq)(b:Nat):Prop:=w.heap[b]?=fh (.cells #[.int .i64 0,.int .i64 0] 141 (0,0))
theorem lp.cells(a:lp w b):b<w.heap.size/\w.c b 0=fh (fY 0)/\w.c b 1=fh (fY 0)/\∀o,w.frozen? (ie b o)=fo:=by
 unfold lp at a
 all_goals grind [lH,World.cell?,World.frozen?]
theorem YF(t)(H c d f Z a)(k id er:Int)(h:fq->Prop)(w:fq)(n:(er==0)=fo)
  (g:ik 136 #[ii t,fD<|ml H c d f Z] ((w.k (ml H c d f Z) 147).k #[fY 0,fY 0] 141) λe J=>e=qr #[fD #[hZ a,fY k,fY id],fY er]/\lp J (w.heap.size+1)/\h J):
  ik 126 #[ii t,fD<|ml H c d f Z] w λe J=>e=qr #[fD #[fY 0,fY 0],fY er]/\∃b,h b/\b.grownBy J (fh<|w.heap.size+1):=by
 change fe _ at g
 go_enter func126,ntmps126;go_wp2_with fail;refine Ps g ?_;rintro e b ⟨rfl,i,j⟩;have⟨l,c0,c1,f0⟩:=i.cells;have m:fe _:=j;clear i j g;go_wp2;exact oa (v:=fC #[fD #[fY 0,fY 0],fY er]) (by simp[results,results126,go_sem,c0,c1,l]) fX ⟨fX,b,m.o,Pq<|sq (sq<|Hd _ _)⟩
def Pr(w)(q):ju w ((w.k (jn q) 147).k #[fY 0,fY 0] 141):=((mi _ _).alloc (lw _) _).alloc (by simp) _
def Tt(w:fq)(q):lp ((w.k (jn q) 147).k #[fY 0,fY 0] 141) (w.heap.size+1):=by
 have:=oO (w.k (jn q) 147)<|.cells #[fY 0,fY 0] 141
 simpa [lp]using this
theorem lfg(a h:Nat)(l)(i:Good l)(k f er:Int)(j:fq->Prop)(w:fq)(x:a<w.heap.size)(c0:w.c a 0=fh (ii h))
  (c:∀W,ju w W->lp W w.heap.size->ik 126 #[ii h,fD<|jn l] W λe J=>e=qr #[fD #[fY k,fY f],fY er]/\lp J w.heap.size/\j J):
  ik 67 #[ii a,hZ<|lA l] w λe J=>e=qr #[fD #[fY k,fY f],fY er]/\∃w2,j w2/\w2.grownBy J (fh w.heap.size):=by
 have d:=λW=>kj l i W;obtain⟨H,m,n,o,Z,p⟩:=sk l;unfold ln at d;simp only[p]at d c;have g:ju w (w.k #[fY 0,fY 0] 141):=(mi _ _).alloc (lw _) _;have q:lp (w.k #[fY 0,fY 0] 141) w.heap.size:=oO _ _;have r:a<(w.k #[fY 0,fY 0] 141).heap.size:=by simp;omega
 have y:=((kw g).1 a 0 x).trans c0
 change fe _ at c g q
 clear p i;generalize lA l=E at d |-;go_enter func67,ntmps67;go_wp2_with(go_at_call 69;refine Hk (d _) λw1 b=>?_;have d0:=((kw b).1 a 0 r).trans y;have F:=nz r b.size);have s:lp (w1.k (ml H m n o Z) 147).drew w.heap.size:=by
  have z:w1.heap[w.heap.size]?=_:=(b.block w.heap.size<|by simp).trans q;show(w1.alloc _).heap[w.heap.size]?=_;rwa [sK _ _ _ (lH.1 z).1]
 have t:=c (w1.k (ml H m n o Z) 147).drew (gS g<|io (b.alloc b.size _)) s;have A:fe _:=t;clear t c s
 go_region_with(go_at_call 126;refine Hk A.o λw2⟨u,B⟩=>?_;have⟨G,C,D,f2⟩:=u.cells;clear u)
 all_goals
  go_wp2;exact oa (v:=fC #[fD #[fY k,fY f],fY er]) (by simp[results,results67,go_sem,C,D]) fX ⟨fX,w2,B,sq<|sq (Hd _ _)⟩
theorem YG(U:2<=i)(m:fI (gA i) T M w w2)(d:fZ M w2 s i p B A g I)(f:M w.heap.size=(0,0))(a:w2.grownBy J (fh w.heap.size)):mm s i p B A T w J g I:=by
 have b:=d.own a f;obtain⟨h,j,l,n,o⟩:=a;exact⟨M,⟨h.trans m.os,j.trans m.tape,l.trans m.output,ww m.size n,m.tags,λk c q=>(o k (nz c m.size) (λe=>by injection e with e;omega)).trans<|m.block k c q,λr=>b.st.fresh⟩,b⟩
structure mQ (tg:gC)(w:World)(s i p:Nat)(B:WB)(gI:List Ob)(g:WG)(lim:Nat)(t:LT):Prop where
 inv:fZ tg w s i p B gI g lim
 flat:Flat gI t g.ft
 ok:fM gI 5 t
 fl:vV gI g.fl
def Rg (s i p:Nat)(B:WB)(A:List Ob)(T:gC)(w J:fq)(I:Nat)(b:WG->LT->Prop):Prop:=∃M a t',fI (Mine i) T M w J/\mQ M J s i p B A a I t'/\b a t'
def Aa (g:WG)(fs':b6)(b:LT)(a:WG)(t':LT):Prop:=t'=b/\a.fs=fs'/\a.fl=g.fl/\a.base=g.base/\a.op=g.op
theorem mQ.ws(b:mQ T w s i p B A g I t):B.wb<w.heap.size/\w.c B.wb 0=fh (ii B.bt)/\nO w B.wb (λk=>(g.op k).map (·.1)):=by
 have⟨a,c⟩:=b.inv.wp.opens.tab;exact⟨a.1,c,a⟩
def mQ.mono(a:mQ T w s i p B A g I t)(b:I<=jW):mQ T w s i p B A g jW t:=⟨a.inv.mono b,a.flat,a.ok,a.fl⟩
def mQ.below(a:mQ T w s i p B A g I t)(b:ju w J):mQ T J s i p B A g I t:=⟨a.inv.below b,a.flat,a.ok,a.fl⟩
theorem Rg.of(a:mQ T w s i p B A g I t)(b:Left s i p B A T w J g fs' t' jW):Rg s i p B A T w J jW (Aa g fs' t'):=by
 have⟨M,e,m,c,hF,d⟩:=b;exact⟨M,_,t',m,⟨c,hF,d,a.fl⟩,fX,fX,fX,fX,fX⟩
theorem Rg.mono{a:WG->LT->Prop}(b:Rg s i p B A T w J I a)(c:I<=jW):Rg s i p B A T w J jW a:=by
 have⟨M,d,t',m,e,f⟩:=b;exact⟨M,d,t',m,e.mono c,f⟩
theorem uS(a:ju w W)(b:Left s i p B A T W J g fs' t' I):Left s i p B A T w J g fs' t' I:=by
 have⟨M,c,m,d,hF,e⟩:=b;exact⟨M,c,mr a m,d,hF,e⟩
theorem uri(a:mQ T w s i p B A g I t)(j:I+1000<1099511627776){n:fO}(d:Good (fx r++[n])):
  ik 31 #[ii B.wb,hZ<|lA (fx r++[n])] w λe J=>e=fF (fY (jD A t g.fs (n::r)).2.1)/\Rg s i p B A T w J (I+400) (Aa g (jD A t g.fs (n::r)).1 (jD A t g.fs (n::r)).2.2):=by
 have⟨h,c0,_⟩:=a.ws;refine(Po B.wb B.bt _ d _ _ w h c0 λW f=>(SU (a.inv.below f) (by omega) a.flat a.ok d).mono λe J⟨b,c⟩=>⟨b,uS f c⟩).mono ?_;rintro e J ⟨b,c⟩;exact⟨b,(Rg.of a c).mono<|by omega⟩
theorem lfp(a:mQ T w s i p B A g I t)(j:I+1000<1099511627776){n:fO}(d:Good (fx r++[n])):
  ik 32 #[ii B.wb,hZ<|lA (fx r++[n])] w λe J=>e=fF (fY (gV A t g.fs (n::r)).2.1)/\Rg s i p B A T w J (I+400) (Aa g (gV A t g.fs (n::r)).1 (gV A t g.fs (n::r)).2.2):=by
 have⟨h,c0,_⟩:=a.ws;refine(Kb B.wb B.bt _ d _ _ w h c0 λW f=>(OW (a.inv.below f) (by omega) a.flat a.ok d).mono λe J⟨b,c⟩=>⟨b,uS f c⟩).mono ?_;rintro e J ⟨b,c⟩;exact⟨b,(Rg.of a c).mono<|by omega⟩
theorem lia(a:mQ T w s i p B A g I t)(m:I+1000<1099511627776){n b:fO}{r c:fQ}(h:Good (fx r++[n]))(j:Good (fx c++[b])):
  ik 33 #[ii B.wb,hZ<|lA (fx r++[n]),hZ<|lA (fx c++[b])] w λe J=>e=fF (fY (QP A t g.fs (n::r) (b::c)).2.1)/\Rg s i p B A T w J (I+400) (Aa g (QP A t g.fs (n::r) (b::c)).1 (QP A t g.fs (n::r) (b::c)).2.2):=by
 have⟨l,c0,_⟩:=a.ws;refine(Kc B.wb B.bt _ _ h j _ _ w l c0 λW k=>(Pj (a.inv.below k) (by omega) a.flat a.ok h j).mono λe J⟨d,f⟩=>⟨d,uS k f⟩).mono ?_;rintro e J ⟨d,f⟩;exact⟨d,(Rg.of a f).mono<|by omega⟩
theorem Pt(t a:Nat)(H b c f Z g d)(id er:Int)(h:fq->Prop)(w:fq)(o:t<w.heap.size)(hid:id≠0)(c1:w.c t 1=fh (ii a))
  (i:∀W,ju w W->ik 213 #[ii a,fY id] W λe J=>e=qr #[hZ d,fY er]/\h J):
  ik 214 #[ii t,fD<|ml H b c f Z,fD #[hZ g,fY 1,fY id]] w λl J=>l=qr #[hZ d,fY er]/\h J:=by
 have j:ju w ((w.k (ml H b c f Z) 147).k #[hZ g,fY 1,fY id] 96).drew:=io<|((mi _ _).alloc (lw _) _).alloc (by simp) _;have k:=i _ j;have m:fe _:=k;have p:(id==0)=fo:=by simpa using hid
 clear i k j;go_enter func214,ntmps214;go_wp2
 go_region_with(go_at_call 213;refine Hk m.o λw2 n=>?_)
 all_goals
  go_wp2;go_ret2;exact⟨fX,n⟩
theorem Gi(t)(H a b c Z nm d:fO)(id er:Int)(j:d.size<=256)(f:fq->Prop)(w:fq)
  (g:ik 214 #[ii t,fD<|ml H a b c Z,fD #[hZ nm,fY 1,fY id]] ((w.k (ml H a b c Z) 147).k #[hZ nm,fY 1,fY id] 96) λe J=>e=qr #[hZ d,fY er]/\f J):
  ik 183 #[ii t,fD<|ml H a b c Z,fD #[hZ nm,fY 1,fY id]] w λe J=>e=qr #[fY (d.size:Int),fY er]/\f J:=by
 have h:fe _:=g;clear g;go_enter func183,ntmps183;go_wp2_with fail;refine Hk h.o λw2 i=>?_;go_wp2;go_ret2;exact⟨fX,i⟩
theorem YH(t n)(H b d f Z g)(id er:Int)(i:fq->Prop)(w:fq)
  (j:ik 187 #[ii t,fD<|ml H b d f Z,fD #[hZ g,fY 2,fY id]] ((w.k (ml H b d f Z) 147).k #[hZ g,fY 2,fY id] 96) λh J=>∃a c,h=qr #[fy a n c,fY er]/\i J):
  ik 183 #[ii t,fD<|ml H b d f Z,fD #[hZ g,fY 2,fY id]] w λh J=>h=qr #[fY (n:Int),fY er]/\i J:=by
 have k:fe _:=j;clear j;go_enter func183,ntmps183;go_wp2_with fail;apply Ps k.o;rintro e w2 ⟨a,c,rfl,l⟩;go_wp2;go_ret2;exact⟨fX,l⟩
theorem YI(t)(H c d f Z a)(k id h er:Int)(j:fq->Prop)(l:fq->Prop)(w:fq)
  (m:ik 136 #[ii t,fD<|ml H c d f Z] ((w.k (ml H c d f Z) 147).k #[fY 0,fY 0] 141) λe J=>e=qr #[fD #[hZ a,fY k,fY id],fY 0]/\lp J (w.heap.size+1)/\(∀o,J.c w.heap.size o=((w.k (ml H c d f Z) 147).k #[fY 0,fY 0] 141).c w.heap.size o)/\j J)
  (n:∀J,j J->lp J (w.heap.size+1)->ik 183 #[ii t,fD<|ml H c d f Z,fD #[hZ a,fY k,fY id]] (J.k #[hZ a,fY k,fY id] 96) λe b=>e=qr #[fY h,fY er]/\lp b (w.heap.size+1)/\(∀o,b.c J.heap.size o=(J.k #[hZ a,fY k,fY id] 96).c J.heap.size o)/\J.heap.size<b.heap.size/\l b):
  ik 126 #[ii t,fD<|ml H c d f Z] w λe J=>e=qr #[fD<|if er=0 then #[fY k,fY h]else #[fY 0,fY 0],fY er]/\∃b,l b/\b.grownBy J (fh<|w.heap.size+1):=by
 have p:fe _:=m;have q:fe _:=n;clear m n;go_enter func126,ntmps126;go_wp2_with fail;refine Hk p.o λr⟨i,B,s⟩=>?_;have⟨C,c0,c1,f0⟩:=i.cells;have D:w.heap.size<r.heap.size:=by omega
 have u:=q.o r s i;have x:fe _:=u;clear i s p q u;go_wp2_with fail;refine Hk x.o λb⟨y,E,F,z⟩=>?_;have⟨G,d0,d1,N⟩:=y.cells;have A:fe _:=z;clear y z x;by_cases g:er=0
 ·subst g
  go_wp2;apply oa (v:=fC #[fD #[fY k,fY h],fY 0]) (by simp[results,results126,go_sem,d0,d1]) fX;exact⟨fX,b,A.o,sq<|sq (Hd _ _)⟩
 have I:(er==0)=fo:=by simpa using g
 have K:fe _:=g;clear g;go_wp2;apply oa (v:=fC #[fD #[fY 0,fY 0],fY er]) (by simp[results,results126,go_sem,d0,d1]) fX;exact⟨fX,b,A.o,sq<|sq (Hd _ _)⟩
theorem Tu{d nm:fO}(b:fZ T w s i p B A g I)(h:I<1099511627776)(j:vV A g.fl)(k:Good q)(l:g.ft.of q=fh f){x:Int×fO}(m:g.fl f=fh x)(n:AC A g.fl g.fs f=(Ts,er,d)):
  ik 214 #[ii B.bt,fD<|jn q,fD #[hZ nm,fY 1,fY 0]] w λo J=>o=qr #[hZ d,fY er]/\mm s i p B A T w J { g with fs:=Ts } (I+1):=by
 have a:ju w ((w.k (jn q) 147).k #[hZ nm,fY 1,fY 0] 96).drew:=io<|((mi _ _).alloc (lw _) _).alloc (by simp) _;have e:=b.wp.uf.aaW k a;rw[l]at e;have c:=nU (b.below a) h j m;rw[n]at c;have⟨y,t7,t8⟩:=b.xH;have⟨H,z,C,D,Z,r⟩:=sk q;rw[r]at e a c |-;simp only[qA,jI,ptr]at e;have t:fe _:=a;have u:fe _:=c;clear b a c;go_enter func214,ntmps214;go_wp2
 go_region_with(go_at_call 181;refine Hk u.o λw2 v=>?_)
 all_goals
  go_wp2;go_ret2;exact⟨fX,v.via t.o⟩
def CK(p n h)(a:iD)(w:fq)(b:w.c p 0=fh (fy a n h)):
  ik 86 #[ii p] w (UV (fY n) w):=by
 go_enter func86,ntmps86;go_wp2;go_ret;exact⟨fX,fX⟩
theorem oH{b k o c:Nat}(d:k≠b):(w.setCell (ie b o) v).c k c=w.c k c:=wJ (a:=(ie k c))<|sI _ _ _ _ d
def uh (w J:fq)(b:Nat)(a:iD)(n h:Nat)(xs Y:gX):Prop:=
 ∃g c w1,w1.ownsRow 0 213 4 (fy (fh ⟨g,0,fj⟩) (n+1) c) (n+1) (xs++Y)/\(∃d e,((w.alloc d).alloc e).drew.grownBy w1 (Value.slice a n h).ownBlock/\((fh g:Option Nat)=(Value.slice a n h).ownBlock\/g=w.heap.size+2))/\
  ∃q,J=(w1.setCell ⟨b,1,fj⟩<|fy (fh ⟨g,0,fj⟩) (n+1) c).drewN q
theorem Ke(b p:Nat)(k c:Int)(d)(a:iD)(n h:Nat)(xs)(f:iD)(el i)(s:iD)(l t:Nat)(w:fq)(u:b<w.heap.size)(M:p<w.heap.size)(N:b≠p)(aa:n<4000000)(ab:l<=400)
  (O:w.c b 0=fh (ii p))(P:w.c b 1=fh (fy a n h))(f1:w.frozen? (ie b 1)=fo)(Q:w.c p 0=fh (fy s l t))
  (y:w.ownsRow 0 213 4 (fy a n h) n xs)(z:fh b≠(Value.slice a n h).ownBlock)(A:fh p≠(Value.slice a n h).ownBlock):
  ik 223 #[ii b,fD #[fY k,hZ d,fy f el i,fY c]] w λe J=>e=fF (fY<|(l:Int)+((n+1:Nat):Int))/\uh w J b a n h xs [fY k,hZ d,fy f el i,fY c]:=by
 have⟨R,U,S,T,V⟩:=kM den;have B:∀o∈[Value.int .i64 k,hZ d,fy f el i,fY c],o.oneCell'=fm:=by intro o C;simp at C;rcases C with rfl|rfl|rfl|rfl<;>rfl
 have D:fe (w.ownsRow 0 213 4 (fy a n h) n xs):=y;have r:fe (fh b≠(Value.slice a n h).ownBlock):=z;have E:fe (fh p≠(Value.slice a n h).ownBlock):=A;have F:fe (∀o∈[Value.int .i64 k,hZ d,fy f el i,fY c],o.oneCell'=fm):=B;have X:=λW c=>CK p l t s W c;have Y:¬p=b:=λe=>N e.symm;clear y z A B;go_enter func223,ntmps223;go_wp2
 go_region_law(refine pw fX (.tmp 9) (.tmp 11) 181 fX 0 213 R _ 4 56 underlying181 U S T V fX (by decide) (fy a n h) n xs (by simp[Act.eval]) ((D.alloc _).alloc _) (ie (w.heap.size+1) 0) 1 1 [fY k,hZ d,fy f el i,fY c] (by simp[Act.eval]) fX (by have q:=Rz (w.k #[fY k,hZ d,fy f el i,fY c] 213) (fY k) (hZ d) (fy f el i) (fY c) 213;rw[zu]at q;exact q) F (by unfold maxLen;omega) (by omega) (Fr _) ?_;intro ac w1 v j G;obtain⟨g,H,rfl⟩:=hh v (by omega);have ad:=vz j u r O;have ae:=vz j u r P;have af:=Ay j u r f1;have I:=vz j M E Q)
 all_goals
  have Z:∀K:fu,(w1.setCell (ie b 1) K).c p 0=fh (fy s l t):=λK=>(oH Y).trans I;have L:fe (∀q,uh w ((w1.setCell (ie b 1)<|my g 0 (n+1) H).drewN q) b a n h xs [fY k,hZ d,fy f el i,fY c]):=λq=>⟨g,H,w1,v,⟨_,_,j,by simpa [Value.ownBlock]using G⟩,q,fX⟩;clear j v G I D r E F;obtain⟨m,x⟩:∃m,n+1=m:=⟨_,fX⟩;have ag:m<=4000000:=by omega
  rw[x]at L |-
  change fe _ at x
  go_wp2
  go_quiet (first|(go_at_call 86;exact Cc<|X _ (Z _)))
  go_wp2;go_ret;obtain rfl:=x;exact⟨fX,L _⟩
structure DB where
 dr:Nat
 mf:Nat
 md:Nat
def qs (n0:Nat)(ms:List Ob)(D:DataW Unit):Prop:=∀d:fO,Maps.has D (.string d.data.toList)=(fileAt ms d).isSome/\∀i,fileAt ms d=fh i->D.atKey (.string d.data.toList) (.lit<|.int .i64 0)=.lit (.int .i64<|(n0:Int)+((i+1:Nat):Int))
def tE (n0:Nat)(ms:List Ob)(D:DataW Unit):Prop:=∀es:List fV,wN es->Maps.has D (pj prog es)=(gG ms es).isSome/\∀i,gG ms es=fh i->D.atKey (pj prog es) (.lit<|.int .i64 0)=.lit (.int .i64<|(n0:Int)+((i+1:Nat):Int))
theorem qs.put{D:DataW Unit}(a:qs n0 A D)(g:Maps.IsMap D)(d)(h:fileAt A d=fj)(j:o.kind=1)(f:o.data=d):qs n0 (A++[o]) (D.put (.string d.data.toList)<|.lit (.int .i64<|(n0:Int)+((fv A+1:Nat):Int))):=by
 intro b;rw[qd,f];by_cases e:d=b
 grind [hQa,WideAt.IsKeyLit,pW,cmn]
 have c:(Lit.string b.data.toList)≠.string d.data.toList:=λa=>e (bytes_inj (by grind));rw[km λa=>e a.2,Nb];refine⟨?_,?_⟩;rw[hNe c];exact(a b).1;intro i U;rw[cin c];exact(a b).2 i U
def qs.other{D:DataW Unit}(a:qs n0 A D)(b:o.kind≠1):qs n0 (A++[o]) D:=by
 intro c;rw[qd,km λa=>b a.1,Nb];exact a c
theorem tE.put{D:DataW Unit}(b:tE n0 A D)(h:Maps.IsMap D)(c:wN es)(j:gG A es=fj)(k:o.kind=2)(a:o.gh=es):
  tE n0 (A++[o]) (D.put (pj prog es)<|.lit (.int .i64<|(n0:Int)+((fv A+1:Nat):Int))):=by
 intro f d;have l:=EX.key (kX es c.1 λe a=>(c.2 e a).1);rw[rR,a];by_cases e:es=f
 grind [hQa,pW,cmn]
 have g:pj prog f≠pj prog es:=λb=>e<|EY c.1 d.1 (λe a=>(c.2 e a).1) (λe a=>(d.2 e a).1) (λe a=>(c.2 e a).2) (λe a=>(d.2 e a).2) b.symm;rw[km λb=>e b.2,Nb];refine⟨?_,?_⟩;rw[hNe g];exact(b f d).1;intro i U;rw[cin g];exact(b f d).2 i U
theorem tE.other{D:DataW Unit}(a:tE n0 A D)(b:o.kind≠2):tE n0 (A++[o]) D:=by
 intro c d;rw[rR,km λa=>b a.1,Nb];exact a c d
def sx (w:fq)(p:Nat)(b:DB)(a:iD)(n h:Nat):Prop:=w.heap[b.dr]?=fh (.cells #[fB<|fh ⟨p,0,fj⟩,fy a n h,.map<|fh b.mf,.map<|fh b.md] 248 (0,0))
theorem sx.c{b}{a}(c:sx w p b a n h):b.dr<w.heap.size/\w.c b.dr 0=fh (ii p)/\w.c b.dr 1=fh (fy a n h)/\w.c b.dr 2=fh (.map<|fh b.mf)/\w.c b.dr 3=fh (.map<|fh b.md)/\w.frozen? (ie b.dr 1)=fo:=by
 grind [sx,lH,World.cell?,World.frozen?]
structure vW (D:Nat->Prop)(w:World)(p:Nat)(b:DB)(n0:Nat)(a:iD)(cap:Nat)(Df Dd:DataW Unit)(ms:List Ob):Prop where
 dd:D b.dr
 df:D b.mf
 dm:D b.md
 da:∀g,(Value.slice a ms.length cap).ownBlock=some g->D g
 hd:sx w p b a ms.length cap
 row:w.ownsRow 0 213 4 (.slice a ms.length cap) ms.length (gB ms)
 files:w.ownsMap prog 9 (plainElem prog 29) b.mf ms.length Df
 lZ:qs n0 ms Df
 rQ:w.ownsMap prog 208 (plainElem prog 29) b.md ms.length Dd
 ot:tE n0 ms Dd
 ne:b.mf≠b.md
 zx:∀o∈ms,wF w D o
 low:∀o∈ms,o.high=0
theorem vW.keep{b}{a}(c:vW D w p b n0 a h Df Dd ms)(f:∀k,k<w.heap.size->D k->J.heap[k]?=w.heap[k]?)(e:∀k,k<w.heap.size->D k->D' k):vW D' J p b n0 a h Df Dd ms:=by
 have i:∀v m t k xs,w.ownsRow 0 t k v m xs->(∀g,v.ownBlock=fh g->D g)->J.ownsRow 0 t k v m xs:=λv m t k xs j hFg=>gg j λg d=>f g (gc j d)<|hFg g d;refine⟨e _ c.hd.c.1 c.dd,e _ c.files.lt c.df,e _ c.rQ.lt c.dm,λg d=>e g (gc c.row d)<|c.da g d,?_,i _ _ _ _ _ c.row c.da,pC c.files<|f _ c.files.lt c.df,c.lZ,pC c.rQ<|f _ c.rQ.lt c.dm,c.ot,c.ne,λo q=>?_,c.low⟩
 have:=c.hd
 unfold sx at this |-;rwa [f _ c.hd.c.1 c.dd];rcases c.zx o q with c|⟨r,s,u,x,y,z,l,n⟩
 exact .inl c;exact .inr ⟨r,s,u,x,y,z,λg d=>e g (gc n d)<|l g d,i _ _ _ _ _ n l⟩
theorem uh.facts{b:DB}{a}(f:uh w J b.dr a n h xs Y)(e:sx w p b a n h)(i:fh b.dr≠(Value.slice a n h).ownBlock):
  ∃g c,sx J p b (fh<|ie g 0) (n+1) c/\J.ownsRow 0 213 4 (my g 0 (n+1) c) (n+1) (xs++Y)/\((fh g:Option Nat)=(Value.slice a n h).ownBlock\/w.heap.size<=g)/\
   J.os=w.os/\J.tape=w.tape/\J.output=w.output/\w.heap.size<=J.heap.size/\∀k,k<w.heap.size->k≠b.dr->fh k≠(Value.slice a n h).ownBlock->J.heap[k]?=w.heap[k]?:=by
 obtain⟨g,c,w1,t,⟨j,l,d,u⟩,q,rfl⟩:=f;have m:=e.c.1;have o:∀k,k<w.heap.size->fh k≠(Value.slice a n h).ownBlock->w1.heap[k]?=w.heap[k]?:=by
  intro k v r;rw[d.block k (by simp;omega) r];show((w.alloc j).alloc l).heap[k]?=_
  grind [sK]
 have x:w1.heap[b.dr]?=fh (.cells #[ii p,fy a n h,.map<|fh b.mf,.map<|fh b.md] 248 (0,0)):=by rw[o b.dr m i];exact e
 have y:g≠b.dr:=by
  grind
 have s:=d.size;simp at s;have z:∀k:Nat,((w1.setCell (ie b.dr 1)<|my g 0 (n+1) c).drewN q).heap[k]?=(w1.setCell (ie b.dr 1)<|my g 0 (n+1) c).heap[k]?:=λk=>rfl;refine⟨g,c,?_,?_,?_,?_,?_,?_,?_,?_⟩
 grind [sx,World.setCell]
 grind [gg,Value.ownBlock,sI]
 grind
 exact d.os;exact d.tape;exact d.output;simp;omega
 grind [sI]
def zk (w J:fq)(p:Nat)(b:DB)(a:iD)(n h R:Nat)(k:ni)(cells:gX)(D:DataW Unit):Prop:=
 ∃c d,sx J p b (fh ⟨c,0,fj⟩) (n+1) d/\J.ownsRow 0 213 4 (fy (fh ⟨c,0,fj⟩) (n+1) d) (n+1) cells/\((fh c:Option Nat)=(Value.slice a n h).ownBlock\/w.heap.size<=c)/\
  J.ownsMap prog k (plainElem prog 29) R (n+1) D/\RA w J b.dr R (Value.slice a n h).ownBlock
theorem uh.aaX{w w5 g:fq}{b:DB}{a}{k}{D:DataW Unit}(o:uh w w5 b.dr a n h xs Y)(d:sx w p b a n h)(j:w.ownsRow 0 213 4 (fy a n h) n xs)
  (f:w.heap[R]?=fh (.map E clock))(q:g.ownsMap prog k (plainElem prog 29) R (n+1) D)(c:w5.grownBy g (fh R)):zk w g p b a n h R k (xs++Y) D:=by
 have l:R≠b.dr:=by rintro rfl;unfold sx at d;rw[f]at d;cases d
 obtain⟨r,s,t,m,u,v,x,y,i,z⟩:=o.facts d<|il j (b:=b.dr) d (by decide);have A:=(lH.1 f).1;have H:=(z R A l<|rv j f).trans f;refine⟨r,s,?_,?_,u,q,⟨?_,?_,?_,ww i c.size,?_⟩⟩;unfold sx;rw[c.block b.dr (nz d.c.1 i) λe=>l (rK e).symm];exact t;refine gg m λB C=>(c.block B (gc m C) ?_)
 grind [rv]
 rw[c.os];exact v;rw[c.tape];exact x;rw[c.output];exact y;intro k F I G J;rw[c.block k (nz F i) λe=>G<|rK e]
 grind
theorem zk.before{b}{a}{k}{cells}{D:DataW Unit}(c:ju w w1)(d:zk w1 J p b a n h R k cells D):zk w J p b a n h R k cells D:=by
 obtain⟨g,i,j,l,m,o,e⟩:=d;refine⟨g,i,j,l,?_,o,⟨e.os.trans c.os,e.tape.trans c.tape,e.output.trans c.output,ww c.size e.size,λk f q r s=>?_⟩⟩;rcases m with d|d
 exact .inl d;exact .inr<|ww c.size d;rw[e.block k (nz f c.size) q r s,c.block k f]
theorem vW.grow{b}{a}{Df Dd l n:DataW Unit}(i:vW D w p b n0 a h Df Dd ms){k}
  (d:zk w J p b a (fv ms) h R k (gB ms++o.cells) O)(z:D R)(A:w.heap[R]?=fh (.map E clock))(Q:wF J (kB D w J) o)(S:o.high=0)
  (T:J.ownsMap prog 9 (plainElem prog 29) b.mf (fv ms+1) l)(B:qs n0 (ms++[o]) l)
  (U:J.ownsMap prog 208 (plainElem prog 29) b.md (fv ms+1) n)(C:tE n0 (ms++[o]) n):
  ∃H F,vW (kB D w J) J p b n0 H F l n (ms++[o])/\fH D w J:=by
 obtain⟨G,I,V,K,L,W,f⟩:=d;have M:∀k,k<w.heap.size->¬D k->J.heap[k]?=w.heap[k]?:=λk s q=>f.block k s (λe=>q<|e▸i.dd) (λe=>q<|e▸z) λe=>q<|i.da k e.symm;refine⟨fh<|ie G 0,I,⟨.inl i.dd,.inl i.df,.inl i.dm,?_,?_,?_,?_,B,?_,C,i.ne,?_,?_⟩,⟨f.os,f.tape,f.output,f.size,M⟩⟩;intro g t;rcases L with c|c
 refine .inl<|i.da g ?_;rwa [<-c];simp only[Value.ownBlock,pW]at t;subst t;exact .inr ⟨c,gc K fX⟩
 grind
 grind [vE]
 grind
 grind
 intro x r;rcases qJ.1 r with c|c
 refine(i.zx x c).mono (λk s N=>.inl N) λv m xs j=>gg j λg d=>?_;have u:=il j (b:=b.dr) i.hd (by decide);have y:=rv j A;rw[d]at u y;refine f.block g (gc j d) (λe=>u (by rw[e])) (λe=>y (by rw[e])) ?_;rcases j.2 with⟨rfl,_⟩|⟨X,Y,Z,rfl,_,P,_⟩
 grind [Value.ownBlock]
 simp only[Value.ownBlock,pW]at d;subst d;exact il i.row P<|by decide
 grind
 intro x r;rcases qJ.1 r with c|c
 exact i.low x c
 grind
theorem zk.other{b}{a}{k}{cells xs}{D:DataW Unit}(l:zk w J p b a n h R k cells D)(d:sx w p b a n h)(o:w.ownsRow 0 213 4 (fy a n h) n xs)
  {f}{g}{i:fu->Option (DataW Unit×List MemPlace)}{c m}{D':DataW Unit}(e:w.ownsMap f g i c m D')(q:c≠R):J.ownsMap f g i c m D':=by
 obtain⟨t,u,_,_,_,_,r⟩:=l;obtain⟨es,clock,j⟩:=pu e;have s:c≠b.dr:=by rintro rfl;unfold sx at d;rw[j]at d;cases d
 exact pC e<|r.block c e.lt s q (rv o j)
theorem Tv(p a:Nat)(b:DB)(Df:DataW Unit)(n)(d:fO)(c:Int)(w:fq)(m:d.size<=256)(o:b.dr<w.heap.size)(q:w.c b.dr 0=fh (ii p))(r:w.c p 1=fh (.map<|fh a))
  (g:w.ownsMap prog 9 (plainElem prog 29) a n Df)(e:Maps.has Df (.string d.data.toList)=fm)(f:Df.atKey (.string d.data.toList) (.lit<|.int .i64 0)=.lit (.int .i64 c)):
  ik 222 #[ii b.dr,hZ d] w (UV (fY c) w):=by
 have h:=rlv (P:=prog) underlying9 (s:=d) (by unfold maxLen;omega);have i:fe (Df.atKey (.string d.data.toList) (.lit<|.int .i64 0)=.lit (.int .i64 c)):=f;have j:fe (Maps.has Df (.string d.data.toList)=fm):=e;clear f e;go_enter func222,ntmps222;go_wp2_with(first
  |(at_lookup;refine ble _ fX _ _ 182 fX 9 29 .i64 HY underlying182 underlying29 (rM _) a n Df fX g _ _ fX h ?_;intro k l t;rw[j.o];obtain rfl:k=c:=by(have:=l.symm.trans i;simpa using this))
  |go_in)
 go_ret;exact⟨fX,fX⟩
theorem Pu(p a:Nat)(b:DB)(Df O:DataW Unit)(n m)(d:fO)(c:Int)(w:fq)(o:d.size<=256)(q:b.dr<w.heap.size)(r:w.c b.dr 0=fh (ii p))(t:w.c p 1=fh (.map<|fh a))(u:w.c b.dr 2=fh (.map<|fh b.mf))(v:a≠b.mf)
  (i:w.ownsMap prog 9 (plainElem prog 29) a n Df)(e:Maps.has Df (.string d.data.toList)=fo)
  (j:w.ownsMap prog 9 (plainElem prog 29) b.mf m O)(f:Maps.has O (.string d.data.toList)=fm)(g:O.atKey (.string d.data.toList) (.lit<|.int .i64 0)=.lit (.int .i64 c)):
  ik 222 #[ii b.dr,hZ d] w (UV (fY c) w):=by
 have h:=rlv (P:=prog) underlying9 (s:=d) (by unfold maxLen;omega);have k:fe (Maps.has O (.string d.data.toList)=fm):=f
 change fe _ at g e
 clear f;go_enter func222,ntmps222;go_wp2_with(first
  |(at_lookup;refine ble _ fX _ _ 182 fX 9 29 .i64 HY underlying182 underlying29 (rM _) a n Df fX i _ _ fX h ?_;intro x y z;rw[e.o])
  |(at_lookup;refine ble _ fX _ _ 182 fX 9 29 .i64 HY underlying182 underlying29 (rM _) b.mf m O fX j _ _ fX h ?_;intro c2 l A;rw[k.o];obtain rfl:c2=c:=by(have:=l.symm.trans g;simpa using this))
  |go_in)
 go_ret;exact⟨fX,fX⟩
theorem Dt{b:DB}{a}(o:uh w J b.dr a n h xs Y)(c:sx w p b a n h)(e:w.ownsRow 0 213 4 (fy a n h) n xs)
  {f:Type}{P}{k}{i:fu->Option (DataW f×List MemPlace)}{D:DataW f}(d:w.ownsMap P k i R m D):J.ownsMap P k i R m D/\J.c b.dr 2=fh (.map<|fh b.mf)/\J.c b.dr 3=fh (.map<|fh b.md):=by
 have⟨es,clock,j⟩:=pu d;have q:R≠b.dr:=by rintro rfl;unfold sx at c;rw[j]at c;cases c
 have⟨g,s,l,_,_,_,_,_,_,r⟩:=o.facts c<|il e (b:=b.dr) c (by decide);exact⟨pC d<|r R d.lt q (rv e j),l.c.2.2.2.1,l.c.2.2.2.2.1⟩
theorem YJ(p g:Nat)(b:DB)(Df O:DataW Unit)(n m:Nat)(a)(h)(xs)(q:iD)(t)(d:fO)(w:fq)(N:d.size<=256)(Q:w.c p 1=fh (.map<|fh g))(C:w.c p 0=fh (fy q n t))(D:p<w.heap.size)(E:b.dr≠p)(u:n<=400)(F:m<4000000)
  (c:sx w p b a m h)(f:w.ownsRow 0 213 4 (fy a m h) m xs)(v:fh p≠(Value.slice a m h).ownBlock)(R:g≠b.mf)
  (G:w.ownsMap prog 9 (plainElem prog 29) g n Df)(x:Maps.has Df (.string d.data.toList)=fo)
  (i:w.ownsMap prog 9 (plainElem prog 29) b.mf m O)(y:Maps.has O (.string d.data.toList)=fo):
  ik 222 #[ii b.dr,hZ d] w λe J=>e=fF (fY<|(n:Int)+((m+1:Nat):Int))/\
   zk w J p b a m h b.mf 9 (xs++[fY 1,hZ d,fy fj 0 0,fY 0]) (O.put (.string d.data.toList)<|.lit (.int .i64<|(n:Int)+((m+1:Nat):Int))):=by
 have j:=rlv (P:=prog) underlying9 (s:=d) (by unfold maxLen;omega);have⟨es,clock,z⟩:=pu i;have⟨H,c0,c1,c2,c3,f1⟩:=c.c;have A:=il f (b:=b.dr) c (by decide);have k:=Ke b.dr p 1 0 d a m h xs fj 0 0 q n t w H D E F u c0 c1 f1 C f A v;have B:fe ((Lit.int .i64<|(n:Int)+((m+1:Nat):Int)).wf=fm):=blt<|by omega
 change fe _ at x y z k c f
 clear v A u;obtain⟨r,l⟩:=oX ((n:Int)+((m+1:Nat):Int):Int);rw[<-l]at k B
 change fe _ at l
 go_enter func222,ntmps222;go_wp2_with(first
  |(at_lookup;refine ble _ fX _ _ 182 fX 9 29 .i64 HY underlying182 underlying29 (rM _) g n Df fX G _ _ fX j ?_;intro S T U;rw[x.o])
  |(at_lookup;refine ble _ fX _ _ 182 fX 9 29 .i64 HY underlying182 underlying29 (rM _) b.mf m O fX i _ _ fX j ?_;intro V W X;rw[y.o])
  |(go_at_call 223;refine Ps k ?_;rintro e w2 ⟨rfl,o⟩;have I:fe _:=o;obtain⟨K,Y,_⟩:=Dt o c f i;clear o)
  |(at_mapUpdate;refine Den _ fX _ _ _ 182 fX 9 29 HY underlying182 _ b.mf m _ fX K (by unfold maxLen;omega) _ _ _ fX fX j _ [] (DNS underlying29 B) ?_;intro Z L M)
  |go_in)
 go_ret;obtain rfl:=l;exact⟨fX,uh.aaX I c f z L M⟩
def uT (o:Ob):Int×fO×List fV:=(o.kind,o.data,o.gh)
theorem findIdx_map{a b:Type}(f:a->b)(q:b->Bool):∀l:List a,(l.map f).findIdx? q=l.findIdx? λx=>q<|f x
 |[]=>rfl
 |x::r=>by rw[lM,col,col,findIdx_map f q r]
theorem Pv{a b:List Ob}(c:a.map uT=b.map uT)(d):fileAt a d=fileAt b d:=by
 have e:∀l:List Ob,fileAt l d=(l.map uT).findIdx? (λx=>decide (x.1=1)&&decide (x.2.1=d)):=λl=>by rw[findIdx_map];rfl
 rw[e,e,c]
theorem Tw{a b:List Ob}(c:a.map uT=b.map uT)(es):gG a es=gG b es:=by
 have e:∀l:List Ob,gG l es=(l.map uT).findIdx? (λx=>decide (x.1=2)&&decide (x.2.2=es)):=λl=>by rw[findIdx_map];rfl
 rw[e,e,c]
def Tx(a b:List Ob)(d:fO):fileAt (a++b) d=(fileAt a d).or ((fileAt b d).map (· + fv a)):=by
 unfold fileAt;rw[List.findIdx?_append]
def YK(a b:List Ob)(es:List fV):gG (a++b) es=(gG a es).or ((gG b es).map (· + fv a)):=by
 unfold gG;rw[List.findIdx?_append]
def yU (D:Nat->Prop)(w:fq)(p:Nat)(b:DB)(A a:List Ob):Prop:=
 ∃c ms d h Df Dd,a=A++c/\ms.map uT=c.map uT/\vW D w p b (fv A) d h Df Dd ms
theorem yU.keep{b}(c:yU D w p b A a)(d:∀k,k<w.heap.size->D k->J.heap[k]?=w.heap[k]?)(e:∀k,k<w.heap.size->D k->D' k):yU D' J p b A a:=by
 have⟨f,ms,g,h,Df,Dd,i,j,l⟩:=c;exact⟨f,ms,g,h,Df,Dd,i,j,l.keep d e⟩
theorem yU.below{b}(c:yU D w p b A a)(d:ju w J):yU (kB D w J) J p b A a:=c.keep (λk e _=>d.block k e) λk _ c=>.inl c
theorem LX(a:∀k,F k->¬D k){x y}(b:F x)(c:D y):x≠y:=λe=>a x b<|e▸c
theorem YL{b}(K:gP ft F w s p A)(r:∀k,F k->¬D k)(v:yU D w p b A a)(L:fv a<4000000)(d:fO)(l:d.size<=256):
  ik 222 #[ii b.dr,hZ d] w λe J=>e=fF (fY (kg a d).1)/\yU (kB D w J) J p b A (kg a d).2/\fH D w J:=by
 have⟨M,N,m,ab,Df,Dd,i⟩:=K;have O:=v;obtain⟨g,ms,y,h,z,ac,rfl,t,c⟩:=v;have same:∀J,J=w->yU (kB D w J) J p b A (A++g)/\fH D w J:=by
  intro J e;subst e;exact⟨O.below<|mi _ _,fH.fK<|mi _ _⟩
 have⟨B,c0,c1,c2,_⟩:=c.hd.c;have C:m≠b.mf:=LX r i.ff c.df;have ad:fv ms=fv g:=by have:=congrArg List.length t;simpa using this
 have⟨j,P⟩:=i.lZ d;have⟨n,Q⟩:=c.lZ d;have f:=Tx A g d;rw[<-Pv t d]at f;unfold kg;cases u:fileAt A d with
 |some x=>
  rw[u]at j f;rw[f];apply (Tv p m b Df (fv A) d ((x:Int)+1) w l B c0 i.gQ.at_.c1 i.files j<|P x u).mono
  grind
 |none=>
  rw[u]at j f;cases q:fileAt ms d with
  |some x=>
   rw[q]at n f;rw[f];apply (Pu p m b Df z (fv A) (fv ms) d _ w l B c0 i.gQ.at_.c1 c2 C i.files j c.files n<|Q x q).mono
   grind
  |none=>
   rw[q]at n f;have R:fileAt (A++g) d=fj:=f;rw[R];have S:=i.gQ.at_.lt;have T:b.dr≠p:=(LX r i.fp c.dd).symm;have U:fh p≠(Value.slice y (fv ms) h).ownBlock:=λe=>r p i.fp<|c.da p e.symm
   have V:fv ms<4000000:=by simp only[lI]at L;omega
   apply (YJ p m b Df z (fv A) (fv ms) y h (gB ms) M N d w l i.gQ.at_.c1 i.gQ.at_.c0 S T i.gQ.many V c.hd c.row U C i.files j c.files n).mono;rintro e J ⟨ae,G⟩;have⟨E,af,W⟩:=pu c.files;have I:=G;have⟨_,_,_,_,_,X,_⟩:=G;have⟨H,Y,Z,aa⟩:=c.grow (o:=xp d) I c.df W (.inl ⟨fX,fX,l⟩) fX X (c.lZ.put c.files.isMap d q fX fX) ((I.other c.hd c.row c.rQ c.ne.symm).mono<|Ha _)<|c.ot.other (show(1:Int)≠2 by decide);refine⟨?_,⟨g++[xp d],ms++[xp d],H,Y,_,_,(sP _ _ _),by rw[nZ,nZ,t],Z⟩,aa⟩
   grind
theorem YM{a}(b:w.ownsRow a 96 3 v (fv es) (flat es)):∃d e,v=fy d (fv es) e:=by
 rcases b.2 with⟨rfl,f⟩|⟨g,c,h,rfl,_⟩
 exact⟨fj,0,by rw[f]⟩;exact⟨_,_,fX⟩
theorem Pw(a:w.ownsRow 0 96 3 v (fv es) (flat es))(b:fv es<=16):
  ik 111 #[v] w (vd (fD<|kv es) w):=by
 rcases a.2 with⟨rfl,d⟩|⟨g,c,e,rfl,_⟩
 obtain rfl:es=[]:=DX.1 d;exact Da w;exact Az g (fv es) c es w fX (gc a fX) b<|ks a
def acI (w J:fq)(p:Nat)(b:DB)(Dd O:DataW Unit)(n m:Nat)(a:iD)(h:Nat)(xs:gX)(es:List fV)(e:Ending):Prop:=
 (∃c,Maps.has Dd (pj prog es)=fm/\Dd.atKey (pj prog es) (.lit<|.int .i64 0)=.lit (.int .i64 c)/\e=fF (.int .i64 c)/\Below w.heap.size w J)\/
 (∃c,Maps.has Dd (pj prog es)=fo/\Maps.has O (pj prog es)=fm/\O.atKey (pj prog es) (.lit<|.int .i64 0)=.lit (.int .i64 c)/\e=fF (.int .i64 c)/\Below w.heap.size w J)\/
 (Maps.has Dd (pj prog es)=fo/\Maps.has O (pj prog es)=fo/\e=fF (.int .i64<|(n:Int)+((m+1:Nat):Int))/\∃d f,J.ownsRow 0 96 3 (fy d (fv es) f) (fv es) (flat es)/\(∀g,(Value.slice d (fv es) f).ownBlock=fh g->w.heap.size<=g)/\
  zk w J p b a m h b.md 208 (xs++[.int .i64 2,fA ByteArray.empty,fy d (fv es) f,.int .i64 0]) (O.put (pj prog es)<|.lit (.int .i64<|(n:Int)+((m+1:Nat):Int))))
theorem Ty{b}{a}{m h f:Nat}{c:Array fu}(d:sx W p b a m h)(g:W.ownsRow 0 213 4 (fy a m h) m xs)(j:W.ownsMap prog 208 (plainElem prog 29) b.md m O)
  (e:W.heap[f]?=fh (.cells c 208 (0,0)))(i:uh W w5 b.dr a m h xs Y)(k:c.size=48):
  w5.c b.dr 3=fh (.map<|fh b.md)/\(loadVar 208<|ie f 0).run prog w5.drew=.ok (fD c) w5.drew/\
   fe (w5.drew.ownsMap prog 208 (plainElem prog 29) b.md m O):=by
 have l:=oq e d (by decide);have⟨t,u,v,w,x,y,z,A,B,n⟩:=i.facts d<|il g (b:=b.dr) d (by decide);have⟨o,_,q⟩:=Dt i d g j;have r:=(n _ (lH.1 e).1 l<|il g e (by decide)).trans e;have s:=Dup (P:=prog) w5.drew f 208 208 c (0,0) _ r underlying208 fX (by rw[k];exact oo);exact⟨q,s,o.drew⟩
theorem YN(p t:Nat)(b:DB)(Dd O:DataW Unit)(n m:Nat)(a)(h)(xs)(ad:iD)(ae)(v)(es:List fV)(w:World)(H:w.ownsRow 0 96 3 v es.length (flat es))(j:wN es)
  (I:p<w.heap.size)(af:w.cell? (ie p 2)=some (.map<|some t))(ag:w.cell? (ie p 0)=some (.slice ad n ae))(aN:b.dr≠p)(aO:n<=400)(aP:m<4000000)
  (K:sx w p b a m h)(ah:w.ownsRow 0 213 4 (.slice a m h) m xs)(ai:some p≠(Value.slice a m h).ownBlock)
  (aj:w.ownsMap prog 208 (plainElem prog 29) t n Dd)(z:w.ownsMap prog 208 (plainElem prog 29) b.md m O):
  ik 199 #[ii b.dr,v] w λe J=>acI w J p b Dd O n m a h xs es e:=by
 have ak:=Pw H j.1;have A:Hid ((kv es).size=48):=kN j.1;have L:=kX es j.1 λe aQ=>(j.2 e aQ).1;have⟨M,c0,c1,c2,c3,f1⟩:=K.c;have al:Hid (w.ownsRow 0 96 3 v es.length<|flat es):=H;have am:Hid (w.ownsRow 0 213 4 (.slice a m h) m xs):=ah;have aR:Hid (es.length<=16):=j.1
 change Hid _ at K ai
 clear H ah j;go_enter func199,ntmps199;go_wp2_with (first
  | (go_at_call 111;refine ak.via λd Q=>?_)
  | (refine abY fX 208 _ _ fX d.heap.size (kv es) fX fX 208 _ (oO d _) (by rw[A.o];exact oo) (by rw[A.o];rfl) (qc es) ?_;rw[vC]))
 have k:ju w (d.alloc<|.cells (kv es) 208):=Q.alloc Q.size _;have R:(d.alloc<|.cells (kv es) 208).heap[d.heap.size]? = some (.cells (kv es) 208 (0,0)):=oO d _;have an:(d.alloc<|.cells (kv es) 208).ownsMap prog 208 (plainElem prog 29) t n Dd:=pC aj<|k.block t aj.lt;have ao:(d.alloc<|.cells (kv es) 208).ownsMap prog 208 (plainElem prog 29) b.md m O:=pC z<|k.block b.md z.lt;have hcW:=λx o(S:x<w.heap.size)=>k.cell (p:=(ie x o)) S;have aS:=(hcW b.dr 0 M).trans c0;have ap:=(hcW b.dr 3 M).trans c3;have aT:=(hcW p 2 I).trans af;have⟨c,aq,ar,aU⟩:=AA (W:=λq=>(d.alloc (.cells (kv es) 208)).drewN q) (λq=>an) L;have⟨B,au,av,aV⟩:=AA (W:=λq=>(d.alloc (.cells (kv es) 208)).drewN q) (λq=>ao) L;have T:=λq=>Dup (P:=prog) ((d.alloc<|.cells (kv es) 208).drewN q) d.heap.size 208 208 (kv es) (0,0) _ R underlying208 fX (by rw[A.o];exact oo)
 go_frame
 have aw:Hid ((d.alloc<|.cells (kv es) 208).heap[d.heap.size]? = some (.cells (kv es) 208 (0,0))):=R;clear R ao an ak c0 c1 c2 c3 af f1 hcW Q;generalize d.alloc (.cells (kv es) 208)=W at *;apply bws (by kernel_rfl)<|by kernel_rfl
 iterate 7 quiet_step (fail)
 refine lY fX 208 _ fX d.heap.size fX (kv es) (by rintro _ ⟨q,rfl⟩;exact T q) ?_
 go_frame
 refine qK fX 183 _ _ true fX (.map<|some t) (.agg<|kv es) (.tuple #[fY c,.bool<|Maps.has Dd (pj prog es)]) fX fX (by rintro _ ⟨q,rfl⟩;exact aq q) ?_
 go_frame
 repeat (quiet_step (fail))
 apply WE;rintro _ ⟨nq,rfl⟩
 change Hid _ at ar av
 clear aq aU aV;cases C:Maps.has Dd (pj prog es) with
 | true=>
  have D:Hid (Maps.has Dd (pj prog es)=true):=C;clear C;go_wp2;go_ret;exact .inl ⟨c,D,ar,fX,jf k _⟩
 | false=>
  have D:Hid (Maps.has Dd (pj prog es)=false):=C;clear C;have ax:∀q,(Instr.lookup 183 (.map<|some b.md) (.agg<|kv es) true).run prog ((W.drewN nq).drewN q)=.ok (.tuple #[fY B,.bool<|Maps.has O (pj prog es)]) ((W.drewN nq).drewN q):=λq=>by rw[DZ];exact au _
  have ay:∀q,(loadVar 208<|ie d.heap.size 0).run prog ((W.drewN nq).drewN q)=.ok (.agg<|kv es) ((W.drewN nq).drewN q):=λq=>by rw[DZ];exact T _
  have aW:(W.drewN nq).cell? (ie b.dr 3)=some (.map<|some b.md):=ap;go_wp2;apply bws (by kernel_rfl)<|by kernel_rfl
  iterate 4 quiet_step (fail)
  refine lY fX 208 _ fX d.heap.size fX (kv es) (by rintro _ ⟨q,rfl⟩;exact ay q) ?_
  go_frame
  refine qK fX 183 _ _ true fX (.map<|some b.md) (.agg<|kv es) (.tuple #[fY B,.bool<|Maps.has O (pj prog es)]) fX fX (by rintro _ ⟨q,rfl⟩;exact ax q) ?_
  go_frame
  repeat (quiet_step (fail))
  apply WE;rintro _ ⟨aX,rfl⟩;rw[DZ];generalize nq+aX=N;clear ax ay aW au T;cases E:Maps.has O (pj prog es) with
  | true=>
   have U:Hid (Maps.has O (pj prog es)=true):=E;clear E;go_wp2;go_ret;exact .inr<|.inl ⟨B,D,U,av,fX,jf k _⟩
  | false=>
   have U:Hid (Maps.has O (pj prog es)=false):=E;clear E;have V:ju w (W.drewN N):=jf k N;have aY:=vR (w:=W.drewN N) (gg al.o λg f=>V.block g<|gc al.o f) aR.o;go_wp2_with fail;apply Ps aY;rintro e u ⟨bh,rfl,X,az,aA⟩;obtain⟨aB,aC,rfl⟩:=YM X;have l:=gS V aA;have y:Hid _:=X;have aD:=λx o(S:x<w.heap.size)=>l.cell (p:=(ie x o)) S;have F:sx u p b a m h:=by
    have:=K.o
    unfold sx at this |-;rwa [l.block _ M]
   have G:u.ownsRow 0 213 4 (.slice a m h) m xs:=gg am λg f=>l.block g<|gc am f;have Y:u.ownsMap prog 208 (plainElem prog 29) b.md m O:=pC z<|l.block b.md z.lt;have⟨aZ,d0,d1,d2,d3,aE⟩:=F.c;have aF:=il G (b:=b.dr) F (by decide);have Z:=Ke b.dr p 2 0 ByteArray.empty a m h xs aB es.length aC ad n ae u aZ (nz I l.size) aN aP aO d0 d1 aE ((aD p 0 I).trans ag) G aF ai;have aG:u.heap[d.heap.size]? = some (.cells (kv es) 208 (0,0)):=(aA.block d.heap.size<|show d.heap.size<(W.drewN N).heap.size from (lH.1 aw).1).trans aw;have⟨bi,bj,aH⟩:=pu Y;have i:Hid _:=And.intro F<|And.intro G (And.intro Y<|And.intro aG aH);have⟨r,aa⟩:=oX ((n:Int)+((m+1:Nat):Int):Int);have bb:Hid ((Lit.int .i64 r).wf=true):=blt (by omega);rw[<-aa] at Z
   change Hid _ at az aa
   clear X aD F G Y aF aG aH aS ap aT d0 d1 d2 d3 aE ag;go_wp2_with fail;refine Hk Z λw5 ab=>?_
   have⟨bk,bc,bd⟩:=Ty i.1 i.2.1 i.2.2.1 i.2.2.2.1 ab A;have be:Hid _:=ab;clear ab Z;go_wp2;apply sat 6 (by kernel_rfl) (by kernel_rfl);simp only[Wo,MZ,MW,Eb]
   iterate 4 still_step
   apply pE fX 208 _ fX d.heap.size fX (kv es) bc
   go_frame
   still_step
   apply sym;refine Den _ fX _ _ _ 183 fX 208 29 EX underlying183 _ b.md m _ fX bd (by unfold maxLen;omega) _ _ _ fX fX L _ [] (DNS underlying29 bb) ?_;intro bl aI aJ;have s:Hid _:=And.intro aI aJ;clear aI aJ;go_wp2;go_ret;obtain rfl:=aa;have aK:=uh.aaX be i.1 i.2.1 i.2.2.2.2 s.1 ⟨s.2.os,s.2.tape,s.2.output,s.2.size,s.2.block⟩;refine .inr (.inr ⟨D,U,fX,aB,aC,?_,λg f=>ww V.size<|az g f,zk.before l aK⟩);have⟨bm,bn,_,_,_,_,bf⟩:=aK;refine gg y λg f=>?_;have aL:=il y (b:=b.dr) i.1 (by decide);have aM:=rv y i.2.2.2.2;rw[f] at aL aM;apply bf.block g (gc y f) (λe=>aL (by rw[e])) λe=>aM (by rw[e]);rcases y.2 with ⟨ac,_⟩ | ⟨bo,B,bp,ac,_,bg,_⟩
   rw[ac] at f;simp[Value.ownBlock] at f;rw[ac] at f;simp only[Value.ownBlock,pW] at f;subst f;exact il i.2.1 bg<|by decide
theorem hjp{b}(R:gP ft F w s p A)(K:∀k,F k->¬D k)(L:yU D w p b A a)(S:fv a<4000000)(v)(es:List fV)(T:w.ownsRow 0 96 3 v (fv es) (flat es))(r:wN es)(U:iI es):
  ik 199 #[ii b.dr,v] w λe J=>e=fF (fY (kC a es).1)/\yU (kB D w J) J p b A (kC a es).2/\fH D w J:=by
 have⟨V,W,am,X,Df,Dd,i⟩:=R;have Y:=L;obtain⟨f,ms,M,h,an,Z,rfl,C,d⟩:=L;have same:∀J,ju w J->yU (kB D w J) J p b A (A++f)/\fH D w J:=λJ n=>⟨Y.below n,fH.fK n⟩;have ao:fv ms=fv f:=by have:=congrArg List.length C;simpa using this
 have⟨j,aa⟩:=i.ot es r;have⟨t,ab⟩:=d.ot es r;have l:=YK A f es;rw[<-Tw C es]at l;have ac:b.dr≠p:=(LX K i.fp d.dd).symm;have ad:fh p≠(Value.slice M (fv ms) h).ownBlock:=λe=>K p i.fp<|d.da p e.symm;have ae:fv ms<4000000:=by simp only[lI]at S;omega
 apply (YN p X b Dd Z (fv A) (fv ms) M h (gB ms) V W v es w T r i.gQ.at_.lt i.gQ.at_.c2 i.gQ.at_.c0 ac i.gQ.many ae d.hd d.row ad i.rQ d.rQ).mono;unfold kC;rintro e J (⟨c,u,G,y,n⟩|⟨c,u,I,G,y,n⟩|⟨u,I,y,ea,ec,N,af,O⟩);rw[u]at j;rcases m:gG A es with _|x
 rw[m]at j;cases j;rw[m]at l;have z:gG (A++f) es=fh x:=l;rw[z];have B:=(aa x m).symm.trans G;refine⟨?_,same J n⟩;rw[y];simp only[DataW.lit.injEq,Lit.int.injEq,true_and]at B;rw[<-B];rw[u]at j;rw[I]at t;have m:gG A es=fj:=by simpa using j.symm
 rcases q:gG ms es with _|x
 rw[q]at t;cases t;rw[m,q]at l;have z:gG (A++f) es=fh (x+fv A):=l;rw[z];have B:=(ab x q).symm.trans G;refine⟨?_,same J n⟩;rw[y];simp only[DataW.lit.injEq,Lit.int.injEq,true_and]at B;rw[<-B];simp only
 congr 2
 omega;rw[u]at j;rw[I]at t;have m:gG A es=fj:=by simpa using j.symm
 have q:gG ms es=fj:=by simpa using t.symm
 rw[m,q]at l;have z:gG (A++f) es=fj:=l;rw[z];have⟨E,ap,ag⟩:=pu d.rQ;have P:=O;have⟨_,_,_,_,_,ah,_⟩:=O
 let o:Ob:={ kind:=2,data:=ByteArray.empty,ea:=ea,el:=fv es,ec:=ec,gh:=es,high:=0 }
 have ai:wF J (kB D w J) o:=.inr ⟨fX,fX,r,U,wE _,by show(0:Int)<=5;decide,λg Q=>.inr ⟨af g Q,gc N Q⟩,N⟩;have⟨H,aj,ak,al⟩:=d.grow (o:=o) P d.dm ag ai fX ((P.other d.hd d.row d.files d.ne).mono<|Ha _) (d.lZ.other (show(2:Int)≠1 by decide)) ah<|d.ot.put d.rQ.isMap r q fX fX;refine⟨?_,⟨f++[Lv es<|gy (A++f) es],ms++[o],H,aj,_,_,(sP _ _ _),by rw[nZ,nZ,C];rfl,ak⟩,al⟩;rw[y];simp only[lI]
 congr 2
 omega
theorem Du:∀{xs b:List fV},iI xs->iI b->xs.Perm b->xs=b
 |[],b,_,_,a=>(List.nil_perm.1 a).symm▸rfl
 |x::xs,[],_,_,a=>absurd a<|by simp
 |x::xs,y::b,c,d,a=>by
  have⟨h,e⟩:=sJ.1 c
  obtain⟨i,f⟩:=sJ.1 d
  have g:x=y:=by
   have j:x∈y::b:=a.mem_iff.1 (by simp);have k:y∈x::xs:=a.mem_iff.2<|by simp
   grind [IY,lX,rO]
  subst g;rw[Du e f<|List.Perm.cons_inv a]
def Ob.core (o:Ob):Int×fO×List fV×Int:=(o.kind,(if o.kind=1 then o.data else⟨#[]⟩),(if o.kind=2 then o.gh else []),o.high)
def je (x y:List Ob):Prop:=x.map Ob.core=y.map Ob.core
def je.len(a:je x y):fv x=fv y:=by have:=congrArg List.length a;simpa using this
theorem je.get(a:je x y)(i:Nat):(x[i]?).map Ob.core=(y[i]?).map Ob.core:=by
 have:=congrArg (λl=>l[i]?) a
 grind
theorem je.snoc(b:je x y){o a:Ob}(c:o.core=a.core):je (x++[o]) (y++[a]):=by
 grind [je]
theorem je.kind(b:je x y)(id:Int):fJ x id=fJ y id:=by
 have a:=b.get (id-1).toNat;unfold fJ;cases c:x[(id-1).toNat]?<;>cases d:y[(id-1).toNat]?<;>rw[c,d]at a<;>simp[Ob.core]at a |-;rw[a.1]
theorem je.high(b:je x y)(id:Int):gp x id=gp y id:=by
 have a:=b.get (id-1).toNat;unfold gp;cases c:x[(id-1).toNat]?<;>cases d:y[(id-1).toNat]?<;>rw[c,d]at a<;>simp[Ob.core]at a |-;rw[a.2.2.2]
theorem je.gh(d:je x y)(a:fJ x id=2):fT x id=fT y id:=by
 obtain⟨e,_⟩:=np (by rw[a];decide);have b:=d.get (id-1).toNat;unfold fJ at a;rw[lv e]at a;unfold fT;cases c:x[(id-1).toNat]?<;>cases f:y[(id-1).toNat]?<;>rw[c,f]at b<;>simp[Ob.core]at b |-;rw[c]at a;simp at a
 grind
theorem YO(o:Ob)(d:fO):(decide (o.kind=1)&&decide (o.data=d))=(decide (o.core.1=1)&&decide (o.core.2.1=d)):=by
 grind [Ob.core]
theorem hjq(o:Ob)(es:List fV):(decide (o.kind=2)&&decide (o.gh=es))=(decide (o.core.1=2)&&decide (o.core.2.2.1=es)):=by
 grind [Ob.core]
theorem je.file(a:je x y)(d):fileAt x d=fileAt y d:=by
 have e:∀l:List Ob,fileAt l d=(l.map Ob.core).findIdx? (λx=>decide (x.1=1)&&decide (x.2.1=d)):=λl=>by
  rw[findIdx_map];unfold fileAt
  congr 1
  funext o
  exact YO o d
 rw[e,e,a]
theorem je.dir(a:je x y)(es):gG x es=gG y es:=by
 have e:∀l:List Ob,gG l es=(l.map Ob.core).findIdx? (λx=>decide (x.1=2)&&decide (x.2.2.1=es)):=λl=>by
  rw[findIdx_map];unfold gG
  congr 1
  funext o
  exact hjq o es
 rw[e,e,a]
theorem je.gy(b:je x y)(es):gy x es=gy y es:=by
 unfold YtlgidcmmgohagaaGreat.gy
 congr 1
 funext a e
 rw[b.high]
def je.good(a:je x y)(e):Hb x e=Hb y e:=by
 unfold Hb;rw[a.kind]
theorem je.sound(a:je x y)(b:Sound y):Sound x:=by
 refine⟨λid=>by rw[a.high];exact b.1 id,λid c=>?_⟩;have d:=c;rw[a.kind]at d;have⟨f,g,h⟩:=b.2 id d;rw[a.gh c];refine⟨f,g,λe i=>?_⟩;rw[a.kind,a.high,a.high];exact h e i
theorem je.exact(a:je x y)(c:Exact y):Exact x:=by
 refine⟨a.sound c.sound,λo g=>?_,λid b=>?_,λid b=>?_⟩;obtain⟨i,U,rfl⟩:=rI g;have d:=a.get i;have e:i<fv y:=by rw[<-a.len];exact U
 rw[jG U,jG e]at d;simp only[qA,pW,Ob.core,vw]at d;rw[d.1];exact c.kinds _<|kK e;rw[a.high];rw[a.kind]at b;exact c.low id b;have f:=b;rw[a.kind]at f;rw[a.high,a.gy,a.gh b];exact c.high id f
def xK(a:fP es):iI es:=a
theorem Gj(b:je x a)(d:yX a o)(j:o.kind=1)(k:fv x<400)(f:lq x x' o.data e):(∃i,e=qr #[fY i,fY 0])/\(∃l,x'=x++l)/\je x' (a++[o]):=by
 rcases d.or with⟨_,m,n,g⟩|⟨p,_⟩
 rcases f with⟨q,_⟩|⟨_,_,i,c,_⟩|⟨_,_⟩|⟨_,_,_,rfl,h⟩
 omega;rw[b.file,g]at c;cases c;omega;refine⟨⟨_,h⟩,⟨_,fX⟩,b.snoc ?_⟩
 grind [Ob.core,xp]
 omega
theorem Iz(c:je x a)(g:yX a o)(h:o.kind=2)(v:fv x<400)(j:jv x x' o.gh e):(∃i,e=qr #[fY i,fY 0])/\(∃l,x'=x++l)/\je x' (a++[o]):=by
 rcases g.or with⟨w,_⟩|⟨_,k,z,d,A,B,m⟩
 omega;have C:∀y∈o.gh,Hb x y=fm:=by
  intro y f;rw[c.good]
  grind [Hb]
 have oh:(o.gh.map (·.1)).Nodup:=wk<|xK d;rcases j with⟨⟨y,f,b⟩,_⟩|⟨_,⟨b,_⟩|⟨_,b,_⟩|⟨_,_,⟨y,f,b⟩,_⟩|⟨_,_,_,D,n,p,E,q⟩⟩
 grind
 grind
 omega
 grind
 obtain rfl:=Du p (xK d) n;rcases q with⟨b,_⟩|⟨_,_,i,b,_⟩|⟨_,_,b,_⟩|⟨_,_,_,⟨F,r,s,t,rfl⟩,u⟩
 rw[c.gy]at b;omega;rw[c.dir,m]at b;cases b;omega;refine⟨⟨_,u⟩,⟨_,fX⟩,c.snoc ?_⟩;unfold Ob.core;rw[r,s,t,h,k,c.gy];simp
theorem Tz(b:gP ft F w s p A)(d:w.ownsRow 0 96 3 v (fv es) (flat es))(f:fv es<=16)(j:∀e∈es,e.1.size<=maxLen):
  ik 60 #[ii p,v] w λe J=>∃H,jv A H es e/\gP ft (kB F w J) J s p H/\fH F w J:=by
 have⟨a,h,k,l,Df,Dd,i⟩:=b;rcases d.2 with⟨rfl,m⟩|⟨g,c,n,rfl,_⟩
 all_goals grind [DX,RI,Vh,gc,ks]
theorem BI(c:w.heap.size<=w1.heap.size)(k)(a:kB F w1 w2 k):kB F w w2 k:=by
 rcases a with a|⟨d,b⟩
 exact .inl a;exact .inr ⟨by omega,b⟩
theorem yA(a:ju w w1)(b:fH F w1 w2):fH F w w2:=
 ⟨b.os.trans a.os,b.tape.trans a.tape,b.output.trans a.output,ww a.size b.size,λk c d=>(b.block k (nz c a.size) d).trans<|a.block k c⟩
def gP.wide{F b:Nat->Prop}(a:gP ft F w s p A)(hF:∀k,F k->b k):gP ft b w s p A:=a.keep (λ_ _ _=>rfl) λk _ a=>hF k a
theorem YP(b:gP ft F w s p A)(d:fO)(r:d.size<=256)(c:iD)(el f)(g:Int):
  ik 148 #[ii p,fD #[fY 1,hZ d,fy c el f,fY g]] w λe J=>∃H x y,lq A H d (qr #[fY x,fY y])/\e=fF (fY y)/\gP ft (kB F w J) J s p H/\fH F w J:=by
 have j:ju w (w.k #[fY 1,hZ d,fy c el f,fY g] 213):=(mi _ _).alloc (lw _) _;have U:gP ft F (w.k #[fY 1,hZ d,fy c el f,fY g] 213) s p A:=b.below j λk _ b=>b;have⟨a,h,t,u,Df,Dd,i⟩:=U;have n:=Nu i d (by unfold maxLen;omega);have o:fe _:=j;clear b j i;go_enter func148,ntmps148;go_wp2_with fail;apply Ps n;rintro e J ⟨H,l,U,q⟩;obtain⟨x,y,rfl⟩:=l.shape;have m:fe _:=And.intro l<|And.intro U q;clear l U q n;go_wp2;go_ret;exact⟨H,x,y,m.1,fX,m.2.1.wide λk=>BI o.size k,yA o m.2.2⟩
theorem hjt(a:gP ft F w s p A)(d)(b)(el c)(f:Int)(j:w.ownsRow 0 96 3 (fy b el c) (fv es) (flat es))(l:fv es<=16)(m:∀e∈es,e.1.size<=maxLen):
  ik 148 #[ii p,fD #[fY 2,hZ d,fy b el c,fY f]] w λe J=>∃H x y,jv A H es (qr #[fY x,fY y])/\e=fF (fY y)/\gP ft (kB F w J) J s p H/\fH F w J:=by
 have g:ju w (w.k #[fY 2,hZ d,fy b el c,fY f] 213):=(mi _ _).alloc (lw _) _;have U:gP ft F (w.k #[fY 2,hZ d,fy b el c,fY f] 213) s p A:=a.below g λk _ a=>a;have n:=Tz U (j.alloc _) l m;have o:fe _:=g;clear a g U j m l;go_enter func148,ntmps148;go_wp2_with fail;apply Ps n;rintro e J ⟨H,h,U,q⟩;obtain⟨x,y,rfl⟩:=h.shape;have i:fe _:=And.intro h<|And.intro U q;clear h U q n;go_wp2;go_ret;exact⟨H,x,y,i.1,fX,i.2.1.wide λk=>BI o.size k,yA o i.2.2⟩
theorem YQ(g:gP ft F w s p x)(h:je x a)(j:fv x<400){o m}(c:yX a o)(k:uT m=uT o)(t:wF w D m):
  ik 148 #[ii p,fD #[fY m.kind,hZ m.data,fy m.ea m.el m.ec,fY m.high]] w λe J=>e=fF (fY 0)/\∃x',(∃l,x'=x++l)/\je x' (a++[o])/\gP ft (kB F w J) J s p x'/\fH F w J:=by
 simp only[uT,vw]at k;have⟨c1,c2,c3⟩:=k;rcases c.or with⟨b,_,u,_⟩|⟨b,_,_,G,v,z,_⟩
 rw[c1,b,c2];apply (YP g o.data u m.ea m.el m.ec m.high).mono;rintro e J ⟨x',i,y,d,rfl,U,A⟩;have⟨⟨B,f⟩,C,E⟩:=Gj h c b j d
 grind
 rcases t with⟨q,_⟩|⟨_,n,_,_,_,_,_,r⟩
 omega;rw[<-n,c3]at r;rw[c1,b,<-n,c3];refine(hjt g m.data m.ea (fv o.gh) m.ec m.high (es:=o.gh) r v (λe f=>by have:=(xj (z e f).1).2;unfold maxLen;omega)).mono ?_;rintro e J ⟨x',i,y,d,rfl,U,A⟩;have⟨⟨B,f⟩,C,E⟩:=Iz h c b j d
 grind
theorem TA:∀{a:List Ob},gK A a->∀b,a=A++b->∀k(c:k<fv b),yX (A++b.take k) b[k]:=by
 intro a d
 induction d with
 |nil=>
  all_goals simp_all
 |snoc f g h=>
  intro b e k c;obtain⟨l,rfl⟩:=f.app
  grind [Hw,sP,KS,Ec,sec]
theorem hj0{a}(j:w.ownsRow 0 213 4 (fy a n h) n (gB ms))(k:fv ms=n)(U:i<fv ms):
  ∃g,a=fh (ie g 0)/\g<w.heap.size/\w.c g (i*4)=fh (.int .i64 ms[i].kind)/\w.c g (i*4+1)=fh (fA ms[i].data)/\
   w.c g (i*4+2)=fh (fy ms[i].ea ms[i].el ms[i].ec)/\w.c g (i*4+3)=fh (.int .i64 ms[i].high):=by
 have p:i<n:=by rw[<-k];exact U
 rcases j.2 with⟨_,q⟩|⟨g,r,s,l,_,e,_,_,t,m⟩
 omega;cases l;have c:∀b d,b<4->(ms[i].cells)[b]?=fh d->w.c g (i*4+b)=fh d:=by
  intro b d o f;rw[<-sU ms i b U o,<-m,MU<|by omega,Wp]at f;simp[World.cell?,e,f]
 exact⟨g,fX,(lH.1 e).1,c 0 _ (by omega) fX,c 1 _ (by omega) fX,c 2 _ (by omega) fX,c 3 _ (by omega) fX⟩
theorem fH.trans'(a:fH F w w1)(k:fH (kB F w w1) w1 w2):fH F w w2:=by
 refine⟨k.os.trans a.os,k.tape.trans a.tape,k.output.trans a.output,ww a.size k.size,λx c d=>?_⟩;rw[k.block x (nz c a.size) λb=>?_,a.block x c d];rcases b with b|⟨b,_⟩
 all_goals grind
theorem TB(d:w.heap.size<=w1.heap.size)(e:w1.heap.size<=w2.heap.size)(k)(c:kB (kB F w w1) w1 w2 k):kB F w w2 k:=by
 rcases c with(c|⟨a,b⟩)|⟨a,b⟩
 exact .inl c;exact .inr ⟨a,by omega⟩;exact .inr ⟨by omega,b⟩
def Px(a:fH F w w1)(n):fH F w (w1.drewN n):=⟨a.os,a.tape,a.output,a.size,a.block⟩
theorem wF.keeps(a:wF w D o)(e:fH F w w1)(f:∀k,D k->¬F k):wF w1 D o:=by
 rcases a with a|⟨h,i,j,l,m,n,b,c⟩
 exact .inl a;exact .inr ⟨h,i,j,l,m,n,b,gg c λg d=>e.block g (gc c d)<|f g (b g d)⟩
theorem lls{b}(G:gP ft F w s p A)(N:∀k,F k->¬D k)(hDI:yU D w p b A a)(O:gK A a)(P:fv a<=400):
  ik 76 #[ii b.dr] w λe J=>e=fF (fY 0)/\∃x',(∃l,x'=A++l)/\je x' a/\gP ft (kB F w J) J s p x'/\fH F w J:=by
 obtain⟨d,ms,H,h,Df,Dd,rfl,I,o⟩:=hDI;have Q:=TA O d fX;have R:fv ms=fv d:=by have:=congrArg List.length I;simpa using this
 have⟨n0,S⟩:=oX<|fv A;have⟨m,K⟩:=oX<|fv ms;have aR:n0+m<=400:=by simp only[lI]at P;omega
 have⟨ah,c0,c1,c2,c3,f1⟩:=o.hd.c;rw[<-K]at c1;have ai:∃t u,w.c p 0=fh (fy t n0 u):=by
  have⟨t,u,aS,aT,aU,aV,i⟩:=G;exact⟨t,u,by rw[S];exact i.gQ.at_.c0⟩
 have⟨t,u,aj⟩:=ai;have ak:=λW f=>CK p n0 u t W f;have y:∀k,D k->¬F k:=λk j al=>N k al j;have T:fe (∀(k:Nat)(j:k<fv ms)(wr W:fq)(x:List Ob),fH F w wr->ju wr W->gP ft (kB F w wr) wr s p x->je x (A++d.take k)->(∃l,x=A++l)->
   ik 148 #[ii p,fD #[.int .i64 ms[k].kind,fA ms[k].data,fy ms[k].ea ms[k].el ms[k].ec,.int .i64 ms[k].high]] W λe J=>e=fF (fY 0)/\fH F w J/\fe (∃x',gP ft (kB F w J) J s p x'/\je x' (A++d.take (k+1))/\∃l,x'=A++l)):=by
  intro k j wr W x c q U V am;have r:k<fv d:=by omega
  have an:uT ms[k]=uT d[k]:=by
   have:=congrArg (λl=>l[k]?) I
   simpa only[hRS,jG j,jG r,qA,pW]using this
  have ao:fv x<400:=by
   have:=V.len
   simp only[lI,kT]at this;omega
  have ap:wF wr D ms[k]:=wF.keeps (o.zx _<|kK j) c y;have aq:wF W D ms[k]:=wF.mono ap (λ_ _ f=>f) λv n xs B=>gg B λg C=>q.block g<|gc B C;have ar:gP ft (kB F w wr) W s p x:=U.below q λ_ _ f=>f;refine(YQ ar V ao (Q k r) an aq).mono ?_;rintro e J ⟨au,x',⟨av,aw⟩,aW,ax,X⟩;obtain⟨ay,rfl⟩:=am;refine⟨au,(fH.trans' c<|yA q X),x',ax.wide λz az=>TB c.size (ww q.size X.size) z<|BI q.size z az,?_,ay++av,by rw[aw,sP]⟩;rwa [vv r,<-sP]
 have Y:fe (∀(k:Nat)(j:k<fv ms)(wr:fq),fH F w wr->∃g,H=fh (ie g 0)/\g<wr.heap.size/\wr.c g (k*4)=fh (.int .i64 ms[k].kind)/\wr.c g (k*4+1)=fh (fA ms[k].data)/\
   wr.c g (k*4+2)=fh (fy ms[k].ea ms[k].el ms[k].ec)/\wr.c g (k*4+3)=fh (.int .i64 ms[k].high)):=by
  intro k j wr c;have B:wr.ownsRow 0 213 4 (fy H (fv ms) h) (fv ms) (gB ms):=gg o.row λg C=>c.block g (gc o.row C)<|y g (o.da g C);exact hj0 B fX j
 have aA:fe (∀wr:fq,fH F w wr->b.dr<wr.heap.size/\wr.c b.dr 0=fh (ii p)):=by
  intro wr c;have aB:=c.block b.dr ah<|y _ o.dd;have Z:sx wr p b H (fv ms) h:=by
   have:=o.hd
   unfold sx at this |-;rw[aB];exact this
  exact⟨Z.c.1,Z.c.2.1⟩
 have aC:fe (∀x:List Ob,je x (A++d.take (fv ms))->je x (A++d)):=by
  intro x f;rwa [R,sL]at f
 have aD:fe (gP ft F w s p A):=G;have aa:fe (m=fv ms):=K;clear G o Q y N O P I R K f1 c2 c3 S;go_enter func76,ntmps76;go_wp2
 go_quiet (first|(go_at_call 86;exact Cc<|ak _ aj))
 go_wp2
 go_loopw [23] (λi wr=>∃k:Nat,k<=m/\i=.int .i64 k/\fH F w wr/\fe (∃x,gP ft (kB F w wr) wr s p x/\je x (A++d.take k)/\∃l,x=A++l)) (λi _=>m-(intOf i).toNat)
 case atStart=>exact⟨0,Fr _,rfl,Px (fH.fK<|mi _ _) _,⟨A,aD.keep (λ_ _ _=>rfl) λ_ _ f=>.inl f,by simp[je],[],by simp⟩⟩
 case round=>
  obtain⟨k,j,rfl,c,L⟩:=hrel;by_cases aE:k<m
  ·have r:k<fv ms:=by rw[<-aa.o];exact aE
   obtain⟨g,rfl,aX,ab,ac,ad,ae⟩:=Y k r wr c;have⟨hbr,aY⟩:=aA wr c;have E:=λW q=>L.elim λx M=>T k r wr W x c q M.1 M.2.1 M.2.2
   change fe _ at E
   generalize ms[k]=mk at ab ac ad ae E;obtain⟨aF,aG,aH,aI,aJ,aZ,aK⟩:=mk;simp only at ab ac ad ae E;have af:ju wr (wr.k #[fY aF,hZ aG,fy aH aI aJ,fY aK] 213):=(mi _ _).alloc (lw _) _;have aL:fe _:=af;clear af L Y T;go_wp2
   go_region_with(go_at_call 148;refine Hk (E _<|io aL) λw1⟨aM,aN⟩=>?_)
   all_goals
    go_wp2;go_roundw
    case rel=>exact⟨k+1,by omega,by go_num,aM,aN⟩
    case measure=>simp[intOf];omega
  have aO:k=m:=by omega
  subst aO;go_wp2;go_ret;have⟨x,aP,ag,aQ⟩:=L;rw[aa.o]at ag;exact⟨fX,x,aQ,aC x ag,aP,c⟩
theorem jT.look_ok{f:fQ->Option fu}(a:jT w b n f){t e:ni}(c:prog.underlying t=fh (.map 147 e)){z:fu}(d:(zeroValue e).run prog w=.ok z w)(g:Good q):
  (Instr.lookup t (.map<|fh b) (fD<|jn q) fm).run prog w=.ok (fC #[(f q).getD z,fE (f q).isSome]) w:=by
 have⟨i,h,_⟩:=a
 have:=h.look_ok yT c d<|Bu g
 grind
structure sN (D D':Nat->Prop)(w w':World):Prop where
 keeps:fH D w w'
 own:∀k,k<w.heap.size->D' k->D k
theorem sN.trans{D D' d}{w J e}(a:sN D D' w J)(k:sN D' d J e):sN D d w e:=
 ⟨⟨k.keeps.os.trans a.keeps.os,k.keeps.tape.trans a.keeps.tape,k.keeps.output.trans a.keeps.output,ww a.keeps.size k.keeps.size,λx b f=>
  (k.keeps.block x (nz b a.keeps.size) λc=>f<|a.own x b c).trans (a.keeps.block x b f)⟩,
  λx b c=>a.own x b<|k.own x (nz b a.keeps.size) c⟩
theorem sN.fK(a:ju w J):sN D D w J:=⟨fH.fK a,λ_ _ a=>a⟩
def sN.via(a:ju w w1)(b:sN D D' w1 J):sN D D' w J:=(sN.fK a).trans b
theorem sN.cell(b:sN D D' w J)(c:k<w.heap.size)(d:¬D k)(o):J.c k o=w.c k o:=wJ (a:=(ie k o))<|b.keeps.block k c d
def TC (D:Nat->Prop)(ow:Nat)(k:Nat):Prop:=D k\/k=ow
structure zl (w0:World)(p:Nat)(gI:List Ob)(D:Nat->Prop)(W:World)(b:DB)(ow:Nat)(a:List Ob)(f:fQ->Option Int)(N:Nat):Prop where
 below:Below w0.heap.size w0 W
 Kf:∀k,TC D ow k->w0.heap.size<=k/\k<W.heap.size
 Py:yU D W p b gI a
 nin:¬D ow
 map:∃n,n<=N/\jT W ow n (fun q=>(f q).map (Value.int .i64))
 few:a.length<=N
theorem zl.via{b}{f}(c:zl w0 p A D W b ow a f N)(d:ju W W'):zl w0 p A D W' b ow a f N:=by
 have⟨n,h,g⟩:=c.map;exact⟨gS c.below d,λk e=>⟨(c.Kf k e).1,nz (c.Kf k e).2 d.size⟩,c.Py.keep (λk e _=>d.block k e) λ_ _ c=>c,c.nin,⟨n,h,g.keep<|d.block ow g.lt⟩,c.few⟩
theorem zl.mono{b}{f}(c:zl w0 p A D W b ow a f N)(d:N<=N'):zl w0 p A D W b ow a f N':=by
 have⟨n,e,g⟩:=c.map;exact⟨c.below,c.Kf,c.Py,c.nin,⟨n,ww e d,g⟩,ww c.few d⟩
theorem zl.Pz{b}{a H}{f}(c:zl w0 p A D W b ow a f N)(h:yU (kB D W W') W' p b A H)(d:fH D W W')(m:N<=N')(o:fv H<=N'):zl w0 p A (kB D W W') W' b ow H f N'/\sN (TC D ow) (TC (kB D W W') ow) W W':=by
 have⟨n,i,q⟩:=c.map;have j:=c.Kf ow<|.inr fX;refine⟨⟨⟨d.os.trans c.below.os,d.tape.trans c.below.tape,d.output.trans c.below.output,ww c.below.size d.size,λk g=>?_⟩,λk g=>?_,h,?_,⟨n,ww i m,q.keep<|d.block ow j.2 c.nin⟩,o⟩,⟨d.os,d.tape,d.output,d.size,λk g i=>d.block k g λh=>i<|.inl h⟩,λk g h=>?_⟩;rw[d.block k (nz g c.below.size) (λr=>by have:=(c.Kf k<|.inl r).1;omega),c.below.block k g];rcases g with(g|⟨l,s⟩)|rfl
 exact⟨(c.Kf k<|.inl g).1,nz (c.Kf k<|.inl g).2 d.size⟩;omega;exact⟨j.1,nz j.2 d.size⟩;rintro(h|⟨l,_⟩);exact c.nin h;omega;rcases h with(h|⟨l,_⟩)|e
 exact .inl h;omega;exact .inr e
theorem zl.note{b}{f}(c:zl w0 p A D W b ow a f N)(s:N<10000000)(l:Good q)(x:Int):
  ∃W',(Instr.mapUpdate 153 (.map<|fh ow) (fD<|jn q)<|fY x).run prog W=.ok () W'/\zl w0 p A D W' b ow a (upd f q<|fh x) (N+1)/\sN (TC D ow) (TC D ow) W W'/\W'.heap.size=W.heap.size:=by
 have⟨n,i,m⟩:=c.map;have t:=c.Kf ow<|.inr fX;obtain⟨W',o,r,d,h⟩:=m.store l (by unfold maxLen;omega) underlying153<|fY x;refine⟨W',o,⟨⟨d.os.trans c.below.os,d.tape.trans c.below.tape,d.output.trans c.below.output,by rw[h];exact c.below.size,λk j=>?_⟩,λk g=>by rw[h];exact c.Kf k g,c.Py.keep (λk g u=>?_) λ_ _ c=>c,c.nin,⟨n+1,by omega,?_⟩,by have:=c.few;omega⟩,⟨⟨d.os,d.tape,d.output,by omega,λk g i=>?_⟩,λ_ _ c=>c⟩,h⟩;rw[d.block k (nz j c.below.size) (λe=>by have:=rK e;omega),c.below.block k j];exact d.block k g λe=>c.nin (by grind)
 ·refine r.congr (λx' v=>?_)
  by_cases e:x'=q
  all_goals grind [upd_same,kh]
 exact d.block k g λe=>i<|.inr (rK e)
def Dv(f)(id:Int)(w:fq)(c1:w.c f 1=fh (fY id)):
  ik 221 #[ii f] w (UV (fY id) w):=by
 go_enter func221,ntmps221;go_wp2;go_ret;exact⟨fX,fX⟩
theorem rA(w)(x y):ju w ((w.alloc x).alloc y)/\ju w ((w.alloc x).alloc y).drew:=by
 have a:=((mi w.heap.size w).alloc (lw _) x).alloc (by simp) y;exact⟨a,io a⟩
theorem LY(a h i ow f:Nat)(H c d g Z)(id:Int)(w:fq)(s:a<w.heap.size)(k:f<w.heap.size)(c7:w.c a 7=fh (.map<|fh h))(l:w.c f 1=fh (fY id))(hid:id≠0)
  (j:∀W,ju w W->(Instr.lookup 161 (.map<|fh h) (fD<|ml H c d g Z) fo).run prog W=.ok (ii f) W):
  ik 198 #[fD #[ii a,ii i,.map<|fh ow],fD<|ml H c d g Z] w (vd (fY id) w):=by
 obtain⟨m,b⟩:=rA w (.cells #[ii a,ii i,.map<|fh ow] 155)<|.cells (ml H c d g Z) 147;have t:=j _ b;have n:=λW o=>Dv f id W o;have q:=(b.cell (p:=(ie f 1)) k).trans l;have r:fe _:=b;clear j m b;go_enter func198,ntmps198;go_wp2
 go_region
 all_goals
  go_wp2_with(go_at_call 221;refine Ps (n _ q) ?_;rintro e w1 ⟨rfl,rfl⟩);go_ret;exact⟨fX,r⟩
theorem YR(b j c ow f:Nat)(H g h i Z d)(r:Int)(k:fq->Prop)(w:fq)(D:b<w.heap.size)(l:f<w.heap.size)(c7:w.c b 7=fh (.map<|fh j))(q:w.c f 1=fh (fY 0))(s:w.c f 2=fh (hZ d))
  (m:∀W,ju w W->(Instr.lookup 161 (.map<|fh j) (fD<|ml H g h i Z) fo).run prog W=.ok (ii f) W)
  (hF:∀W,ju w W->ik 222 #[ii c,hZ d] W λe J=>e=fF (fY r)/\k J):
  ik 198 #[fD #[ii b,ii c,.map<|fh ow],fD<|ml H g h i Z] w λe J=>e=fF (fY r)/\k J:=by
 obtain⟨t,a⟩:=rA w (.cells #[ii b,ii c,.map<|fh ow] 155)<|.cells (ml H g h i Z) 147;have E:=m _ a;have u:=λW v=>Dv f 0 W v;have x:=λW y z=>JG f d W y z;have n:=(a.cell (p:=(ie f 1)) l).trans q;have A:=(a.cell (p:=(ie f 2)) l).trans s;have o:=hF _ a;have B:fe _:=o;clear m t a hF o;go_enter func198,ntmps198;go_wp2
 go_region
 all_goals
  go_wp2_with(first
   |(go_at_call 221;refine tB (u _ n) ?_)
   |(go_at_call 181;refine Ps (x _ n A) ?_;rintro e w1 ⟨rfl,rfl⟩)
   |(go_at_call 222;refine Hk B.o λw2 C=>?_))
  go_ret;exact⟨fX,C⟩
theorem xL(b c ow:Nat)(H d e f Z g)(k id:Int)(w:fq)(hid:id≠0):
  ik 74 #[fD #[ii b,ii c,.map<|fh ow],fD<|ml H d e f Z,fD #[hZ g,fY k,fY id]] w (vd (fY id) w):=by
 have a:∀x y z:Obj,ju w (((w.alloc x).alloc y).alloc z):=λx y z=>(((mi w.heap.size w).alloc (lw _) x).alloc (by simp) y).alloc (by simp;omega) z
 change fe _ at a
 go_enter func74,ntmps74;go_wp2;go_ret;exact⟨fX,a _ _ _⟩
def jM (w:fq)(a b ow:Nat)(H c d e Z f:fO)(k id:Int):fq:=((w.alloc<|.cells #[fB<|fh ⟨a,0,fj⟩,fB<|fh ⟨b,0,fj⟩,.map<|fh ow] 155).alloc<|.cells #[fA H,fA c,fA d,fA e,fA Z] 147).alloc<|.cells #[fA f,.int .i64 k,.int .i64 id] 96
def oI(w)(a b ow)(H c d e Z f)(k id:Int):ju w (jM w a b ow H c d e Z f k id):=(((mi w.heap.size w).alloc (lw _) _).alloc (by simp) _).alloc (by simp;omega) _
def lf{c:Array fu}{t}{z}(a:w.heap[b]?=fh (.cells c t z))(o):w.c b o=c[o]?:=by simp[World.cell?,a]
theorem xM(w:fq)(x y z):(((w.alloc x).alloc y).alloc z).heap[w.heap.size]?=fh x/\(((w.alloc x).alloc y).alloc z).heap[w.heap.size+1]?=fh y:=by
 grind [RowKit.Below.heap_alloc,bot,Wu]
theorem Gk(w)(d e ow)(H a b c Z f)(k id:Int):(jM w d e ow H a b c Z f k id).c w.heap.size 2=fh (.map<|fh ow)/\(jM w d e ow H a b c Z f k id).c (w.heap.size+1) 0=fh (hZ H)/\(jM w d e ow H a b c Z f k id).c (w.heap.size+1) 1=fh (hZ a)/\(jM w d e ow H a b c Z f k id).c (w.heap.size+1) 2=fh (hZ b)/\(jM w d e ow H a b c Z f k id).c (w.heap.size+1) 3=fh (hZ c)/\(jM w d e ow H a b c Z f k id).c (w.heap.size+1) 4=fh (hZ Z):=by
 have⟨h,g⟩:=xM w (.cells #[ii d,ii e,.map<|fh ow] 155) (.cells (ml H a b c Z) 147)<|.cells #[hZ f,fY k,fY id] 96;exact⟨lf h 2,lf g 0,lf g 1,lf g 2,lf g 3,lf g 4⟩
theorem PA(f g ow)(H a b c Z i)(k r:Int)(j p:fq->Prop)(w)
  (q:∀W,ju w W->(Instr.lookup 153 (.map<|fh ow) (fD<|ml H a b c Z) fm).run prog W=.ok (fC #[fY 0,fE fo]) W)
  (s:ik 147 #[fD #[ii f,ii g,.map<|fh ow],fD<|ml H a b c Z,fY k] (jM w f g ow H a b c Z i k 0) λe J=>e=fF (fY r)/\j J)
  (t:∀J,j J->∀l o,w.heap.size<=l->l<w.heap.size+3->J.c l o=(jM w f g ow H a b c Z i k 0).c l o)
  (u:∀J,j J->w.heap.size+3<=J.heap.size)
  (v:∀J,j J->∃x,(Instr.mapUpdate 153 (.map<|fh ow) (fD<|ml H a b c Z)<|fY r).run prog J=.ok () x/\p x):
  ik 74 #[fD #[ii f,ii g,.map<|fh ow],fD<|ml H a b c Z,fD #[hZ i,fY k,fY 0]] w λe J=>e=fF (fY r)/\p J:=by
 have K:=q _<|oI w f g ow H a b c Z i k 0;have n:fe _:=s;have y:fe _:=t;have z:fe _:=u;have A:fe _:=v;clear q s t u v;have⟨B,C,D,E,F,G⟩:=Gk w f g ow H a b c Z i k 0;have h:fe _:=And.intro B<|And.intro C (And.intro D<|And.intro E (And.intro F G));clear B C D E F G;unfold jM at K n;go_enter func74,ntmps74;go_wp2_with fail;refine Hk n.o λw1 m=>?_;have d:=y w1 m;have S:=z.o w1 m;obtain⟨w2,T,I⟩:=A w1 m;have L:=d w.heap.size 2 (lw _) (by omega);have M:=d (w.heap.size+1) 0 (by omega) (by omega);have N:=d (w.heap.size+1) 1 (by omega) (by omega);have O:=d (w.heap.size+1) 2 (by omega) (by omega);have P:=d (w.heap.size+1) 3 (by omega) (by omega);have Q:=d (w.heap.size+1) 4 (by omega) (by omega);rw[h.o.1]at L;rw[h.o.2.1]at M;rw[h.o.2.2.1]at N;rw[h.o.2.2.2.1]at O;rw[h.o.2.2.2.2.1]at P;rw[h.o.2.2.2.2.2]at Q;have U:w.heap.size+1<w1.heap.size:=by omega
 have R:fe _:=I;clear d m I n y A z;go_wp2;go_ret;exact⟨fX,R⟩
theorem TD(a b ow:Nat)(H c d f Z)(r:Int)(g:fq->Prop)(w)
  (h:∀W,ju w W->ik 198 #[fD #[ii a,ii b,.map<|fh ow],fD<|ml H c d f Z] W λe J=>e=fF (fY r)/\g J):
  ik 147 #[fD #[ii a,ii b,.map<|fh ow],fD<|ml H c d f Z,fY 1] w λe J=>e=fF (fY r)/\g J:=by
 have⟨i,_⟩:=rA w (.cells #[ii a,ii b,.map<|fh ow] 155)<|.cells (ml H c d f Z) 147;have j:=h _ i;have k:fe _:=j;clear h j i;go_enter func147,ntmps147;go_wp2_with(go_at_call 198;refine Hk k.o λw1 l=>?_);go_ret;exact⟨fX,l⟩
