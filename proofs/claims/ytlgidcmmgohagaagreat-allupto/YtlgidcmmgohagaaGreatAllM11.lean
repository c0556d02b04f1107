/- A part of the proof. -/
import Derived.Test.YtlgidcmmgohagaaGreatAllM10
set_option linter.all false
namespace Go.Proofs.YtlgidcmmgohagaaGreat
open Go.RowKit Go.Sort Go.Shelf Go.Proofs.Tryz
open Go.Value renaming slice->fy,string->fA,pointer->fB,tuple->fC,agg->fD,bool->fE
open Go.Ending renaming returned->fF
open Option renaming some->fh,none->fj
open Bool renaming true->fm,false->fo
open Go renaming World->fq,Value->fu
open List renaming length->fv,reverse->fx
open Go.RowKit renaming Hid->fe
set_option maxRecDepth 100000
set_option maxHeartbeats 0
variable {od:fQ->Option (List fV)}{b c f g i j k I jW n p s:Nat}{w J w1 w4:fq}{of:fQ->Option Nat}{id:Int}{P:Nat×Nat->Prop}{got:List Int}{o1:Obj}{kD kF:Int->Bool}{O:fQ->fu}{fl:Nat->Option (Int×fO)}{r:Option Nat}{l:fQ}{es:List fV}{brk:Bool}{ft:kE}{v:fu}{t:Nat×Nat}{A:List Ob}
variable {w:fq}{s p I i:Nat}{A:List Ob}{got:List Int}{brk:Bool}
theorem su(a:Below (w.alloc o1).drew.heap.size (w.alloc o1).drew w1):w.heap.size<w1.heap.size:=by
 have b:(w.alloc o1).heap.size<=w1.heap.size:=a.size
 grind [zu]
theorem toQ(H b c d Z:fO)(k:Int)(r:fO)(w:fq)(h:(k=1/\r=H)\/(k=2/\r=b)\/(k=3/\r=c)\/(k=4/\r=d)\/(k=5/\r=Z))
  (j:∀a,(Op.equalIn 10000 147 (fD<|ml H b c d Z)<|fD (ml kq kq kq kq kq)).run prog a=.ok fo a)
  (i:∀a,ik 142 #[fD<|ml H b c d Z] a<|vd (fY k) a):
  ik 134 #[fD<|ml H b c d Z] w (vd (hZ r) w):=by
 have e:=λa=>gW a;unfold ln jn at e;simp only[tW]at e;rcases h with⟨rfl,rfl⟩|⟨rfl,rfl⟩|⟨rfl,rfl⟩|⟨rfl,rfl⟩|⟨rfl,rfl⟩
 all_goals
  go_enter func134,ntmps134;go_wp2
  go_region_with(first
   |(go_at_call 75;refine(e _).via λw1 f=>?_;have⟨l,m⟩:=kw f;have n:=su f))
  all_goals
   go_wp2_with(go_at_call 142;refine(i _).via λo g=>?_;have⟨p,q⟩:=kw g);go_ret;exact⟨fX,gS (gS (io<|(mi _ _).alloc (lw _) _) f) g⟩
theorem XM(l:fQ)(a:l≠[]):l.getD (fv l-1) kq=l.getLast a:=by
 grind
theorem mO(l)(b:Good l)(c:l≠[])(w:fq):ik 134 #[ln l] w (vd (hZ<|l.getLast c) w):=by
 have d:∀a,(Op.equalIn 10000 147 (ln l)<|ln []).run prog a=.ok fo a:=λa=>by
  have:=ir b Good.nil a
  rwa [yv c]at this
 have e:=λa=>nN l b.val b.len a;have f:=b.len;have g:=Ww.2 c;rw[<-XM l c];generalize h:fv l=k at e f g |-;unfold ln jn at d e |-;simp only[tW]at d;refine toQ _ _ _ _ _ _ _ w ?_ d e
 grind
theorem jo(l)(b:Good l)(w:fq):ik 132 #[ln l] w (vd (ln l.dropLast) w):=by
 have d:=λa=>nN l b.val b.len a;have g:=b.len;by_cases f:l=[];subst f;have c:=λa=>XL [] a;exact Dl _ _ _ _ _ _ _ _ _ _ 0 (-1) w (by decide) d c;have h:=Ww.2 f;have c:=λa=>OC l b.len (fv l-1) (by omega) a;rw[<-List.dropLast_eq_take]at c;refine Dl _ _ _ _ _ _ _ _ _ _ (fv l:Int) ((fv l-1:Nat):Int) w ?_ d c;rcases(show fv l=1\/fv l=2\/fv l=3\/fv l=4\/fv l=5 by omega)with e|e|e|e|e<;>(rw[e];decide)
def OD(b)(id:Int)(w:fq):
  ik 211 #[ii b,fY id] w λe J=>e=fF (ii w.heap.size)/\J=w.k #[ii b,fY id,hZ kq] 308:=by
 go_enter func211,ntmps211;go_wp2;go_ret;exact⟨fX,fX⟩
def SD(w:fq):
  ik 210 #[] w λe J=>e=fF (ii w.heap.size)/\J=w.k #[fB fj,fY 0,hZ kq] 308:=by
 go_enter func210,ntmps210;go_wp2;go_ret;exact⟨fX,fX⟩
def OE(f:Nat)(v)(d)(x y z:fu)(w:fq)(b:f<w.heap.size)(c0:w.c f 0=fh x)(c1:w.c f 1=fh y)(c2:w.c f 2=fh z)(f0:∀a,w.frozen? (ie f a)=fo)
  (c:(convert 204 9 v).run prog w=.ok (hZ d) w):
  ik 212 #[ii f,v] w λe J=>e=qr #[]/\J=((w.setCell (ie f 0)<|fB fj).setCell (ie f 1)<|fY 0).setCell (ie f 2) (hZ d):=by
 go_enter func212,ntmps212;go_wp2;go_end0;exact⟨fX,fX⟩
def XN(a)(fg b n:Int)(w:fq)(c1:w.c a 1=fh (fY fg))(c:(bits BinOp.and IntKind.i64 fg 32 != 0)=fm):
  ik 180 #[ii a,fY n] w (UV (fY n) w):=by
 go_enter func180,ntmps180;go_wp2;go_ret;exact⟨fX,fX⟩
def JG(f)(d)(w:fq)(c1:w.c f 1=fh (fY 0))(c2:w.c f 2=fh (hZ d)):
  ik 181 #[ii f] w (UV (fC #[hZ d,fY 0]) w):=by
 go_enter func181,ntmps181;go_wp2;go_ret2;exact⟨fX,fX⟩
theorem XO(f b:Nat)(id a:Int)(d)(c:fq->Prop)(w:fq)(i:f<w.heap.size)(c0:w.c f 0=fh (ii b))(c1:w.c f 1=fh (fY id))(hid:id≠0)
  (g:ik 213 #[ii b,fY id] w.drew λe J=>e=qr #[hZ d,fY a]/\c J):
  ik 181 #[ii f] w λe J=>e=qr #[hZ d,fY a]/\c J:=by
 go_enter func181,ntmps181;go_wp2
 go_region_with(go_at_call 213;refine g.via λw1 h=>?_)
 all_goals
  go_wp2;go_ret2;exact⟨fX,h⟩
theorem SE(f:Nat)(x y z:fu)(w:fq)(a:f<w.heap.size)(c0:w.c f 0=fh x)(c1:w.c f 1=fh y)(c2:w.c f 2=fh z)(f0:∀b,w.frozen? (ie f b)=fo)
  (c:(convert 204 9<|fy fj 0 0).run prog w=.ok (hZ kq) w):
  ik 179 #[ii f] w λe J=>e=qr #[]/\J=((w.setCell (ie f 0)<|fB fj).setCell (ie f 1)<|fY 0).setCell (ie f 2) (hZ kq):=by
 go_enter func179,ntmps179;go_wp2_with(go_at_call 212;refine(OE f (fy fj 0 0) kq x y z w a c0 c1 c2 f0 c).mono ?_;rintro e w1 ⟨rfl,rfl⟩);go_end0;exact⟨fX,fX⟩
def hac(a)(fg b n:Int)(w:fq)(c1:w.c a 1=fh (fY fg))(c2:w.c a 2=fh (fY b))(c:(bits BinOp.and IntKind.i64 fg 32 != 0)=fo):
  ik 180 #[ii a,fY n] w (UV (fY b) w):=by
 go_enter func180,ntmps180;go_wp2;go_ret;exact⟨fX,fX⟩
theorem haj(b f)(fg a n c:Int)(d)(g:fq->Prop)(w:fq)(c0:w.c b 0=fh (ii f))(c1:w.c b 1=fh (fY fg))(c2:w.c b 2=fh (fY a))
  (j:(bits BinOp.and IntKind.i64 fg 1==0)=fo)(k:1<=n)(l:0<=a)(o:a<256)(p:c≠0)
  (h:ik 181 #[ii f] w λe J=>e=qr #[hZ d,fY c]/\g J):
  ik 125 #[ii b,fY n] w λe J=>e=qr #[hZ kq,fY c]/\g J:=by
 obtain⟨m,q⟩:=oX<|min n (256-a);have r:(m==0)=fo:=by simp;omega
 have s:IntKind.i64.wrap (256-a)=256-a:=by rw[zv]<;>omega
 go_enter func125,ntmps125;go_wp2_with(go_at_call 181;refine h.via λw1 i=>?_);go_ret2;exact⟨fX,i⟩
theorem kna(b f)(fg a n:Int)(d:fO)(c:fq->Prop)(w:fq)(c0:w.c b 0=fh (ii f))(c1:w.c b 1=fh (fY fg))(c2:w.c b 2=fh (fY a))
  (o:(bits BinOp.and IntKind.i64 fg 1==0)=fo)(p:1<=n)(q:0<=a)(r:a<256)(s:d.size<=256)
  (j:ik 181 #[ii f] w λe J=>e=qr #[hZ d,fY 0]/\c J)
  (k:∀w1,c w1->b<w1.heap.size/\w1.c b 2=fh (fY a)/\w1.frozen? (ie b 2)=fo):
  ik 125 #[ii b,fY n] w λe J=>e=qr #[fA<|d.extract (min a.toNat d.size) (min (min a.toNat d.size+(min n<|256-a).toNat) d.size),fY 0]/\∃w1,c w1/\J=w1.setCell (ie b 2) (.int .i64<|a+(d.extract (min a.toNat d.size)<|min (min a.toNat d.size+(min n<|256-a).toNat) d.size).size):=by
 obtain⟨m,t⟩:=oX<|min n (256-a);have u:(m==0)=fo:=by simp;omega
 have v:IntKind.i64.wrap (256-a)=256-a:=by rw[zv]<;>omega
 go_enter func125,ntmps125;go_wp2_with(go_at_call 181;refine j.via λw1 g=>?_;have⟨x,y,z⟩:=k w1 g);go_ret2;have h:(min a (d.size:Int)).toNat=min a.toNat d.size:=by omega
 have i:(min (min a (d.size:Int)+min n (256-a)) (d.size:Int)).toNat=min (min a.toNat d.size+(min n<|256-a).toNat) d.size:=by omega
 have l:(min (min (min a (d.size:Int)+min n (256-a)) (d.size:Int)).toNat d.size-(min a (d.size:Int)).toNat:Nat)=(d.extract (min a.toNat d.size)<|min (min a.toNat d.size+(min n<|256-a).toNat) d.size).size:=by
  rw[hBN,<-i,<-h]
 rw[l,h,i];exact⟨fX,w1,g,fX⟩
def xw (a d:List UInt8)(b:Nat):List UInt8:=(a++List.replicate (max (fv a) (b+fv d)-fv a) 0).take b++d++(a++List.replicate (max (fv a) (b+fv d)-fv a) 0).drop (b+fv d)
def ue (a d:fO)(b:Nat):fO:=⟨(xw a.data.toList d.data.toList b).toArray⟩
theorem zf(a d)(b):fv (xw a d b)=max (fv a) (b+fv d):=by
 grind [xw]
def mZ (w:fq)(f:Nat)(d:fO):fq:=((w.setCell ⟨f,0,fj⟩<|fB fj).setCell ⟨f,1,fj⟩<|.int .i64 0).setCell ⟨f,2,fj⟩<|fA d
def hba:(prog.info? 5).map (λi=>(i.zero,i.size,i.bytes))=fh (fh<|.int .u8 0,1,1):=by kernel_rfl
def LG:(prog.info? 5).map (·.size)=fh 1:=by kernel_rfl
theorem Bl{P:Program}{j:Array Oper}{rest:List Oper}{a:Oper}{c:Act}{l:Exit->Act->fq->Prop}(q:a.guard=fj)(d x:Operand)(f m:ni)
  (r:a.op=.call { callee:=.builtin .copy,args:=#[d,x],argTypes:=#[f,m] })(h:ni)(u:P.underlying f=fh (.slice h))(v:(P.info? h).map (·.size)=fh 1)
  (g off i n)(s:fO)(y:c.eval d=my g off i n)(z:c.eval x=fA s)
  (b:Array fu)(t)(o:w.heap[g]?=fh (.cells b t (0,0)))(A:s.size<=i)(B:off+s.size<=b.size)
  (new:Array fu)(C:new.toList=b.toList.take off++Lib.byteCells s.data.toList++b.toList.drop (off+s.size))
  (D:∀J,fe (J.heap[g]?=fh (.cells new t (0,0)))->w.grownBy J (fh g)->wpList P j l rest (c.put a.dst<|goInt s.size) J):wpList P j l (a::rest) c w:=by
 refine cpu q λG E=>?_;have p:=Lib.run_copy_row_string (P:=P) w f m a.type h g off i n s b t u v o A B;rw[<-C,Eta]at p;unfold Oper.wp;simp[execOp,r,resolve,invoke,builtin,y,z,p,Result.andThen];exact E _ _ (D _ (KX w g _ _ t _ o) ⟨fX,fX,fX,by simp,λk H F=>EJ w g k _ λe=>F (by rw[e])⟩)
theorem FM(b:w.ownsRow 0 5 1 (my g 0 n n) n (madeCells (Value.int .u8 0).cells<|n*1).toList):∃a,fe (w.heap[g]?=fh (.cells a 5 (0,0)))/\fe (a.toList=Lib.byteCells (List.replicate n 0)):=by
 rcases b.2 with⟨c,_⟩|⟨f,h,a,d,_,e,_⟩
 cases c;cases d;refine⟨a,e,?_⟩;show a.toList=_;have i:(madeCells (Value.int .u8 0).cells<|n*1).toList=List.replicate n (Value.int .u8 0):=by rw[Nat.mul_one];exact toList_madeCells_one _ n
 grind [oM,pq,Lib.byteCells,List.map_replicate]
theorem zR{w a b}(c:ju w a)(d:a.grownBy b (fh w.heap.size)):fe (ju w b):=c.grown d c.size (λk e=>by cases e;exact lw _)
theorem XP{l}(a:w.heap[g]?=fh (.cells (Lib.byteCells l).toArray 5 (0,0)))(h):(convert 204 9<|my g 0 (fv l) h).run prog w=.ok (fA ⟨l.toArray⟩) w:=
 run_convert_bytes_back w 204 9 5 (ie g 0) h l underlying204 underlying5 underlying9 (λj b=>by
  have c:((ie g 0):Addr).add j=(ie g j):=by unfold Addr.add;split<;>simp_all
  rw[c]
  simp[World.cell?,a,Lib.byteCells,b])
def XQ{a:List UInt8}(b:fv a<=n):Lib.byteCells (a++List.replicate (n-fv a) 0)=(Lib.byteCells<|List.replicate n 0).take 0++Lib.byteCells a++(Lib.byteCells<|List.replicate n 0).drop (0+fv a):=by
 simp[Lib.byteCells]
def hbd(l d:List UInt8)(a:Nat):Lib.byteCells (l.take a++d++l.drop (a+fv d))=(Lib.byteCells l).take a++Lib.byteCells d++(Lib.byteCells l).drop (a+fv d):=by
 simp[Lib.byteCells,List.map_take,List.map_drop]
theorem XR(b:ju w1 w4)(c:f<w1.heap.size/\(∃x y z,w1.c f 0=fh x/\w1.c f 1=fh y/\w1.c f 2=fh z)/\∀a,w1.frozen? (ie f a)=fo):
  f<w4.heap.size/\(∃x y z,w4.c f 0=fh x/\w4.c f 1=fh y/\w4.c f 2=fh z)/\∀a,w4.frozen? (ie f a)=fo:=by
 obtain⟨d,⟨x,_⟩,e⟩:=c;have g:=b.block f d
 grind [wJ,Rj,nz]
theorem Vx{l}(h)(a:ju w1 w4)(b:f<w1.heap.size/\(∃x y z,w1.c f 0=fh x/\w1.c f 1=fh y/\w1.c f 2=fh z)/\∀c,w1.frozen? (ie f c)=fo)(d:w4.heap[g]?=fh (.cells (Lib.byteCells l).toArray 5 (0,0))):
  ik 212 #[ii f,my g 0 (fv l) h] w4 λe J=>e=qr #[]/\J=mZ w4 f ⟨l.toArray⟩:=by
 obtain⟨i,⟨x,y,z,j,k,m⟩,n⟩:=XR a b;exact OE f _ ⟨l.toArray⟩ x y z w4 i j k m n (XP d h)
theorem OG(f a:Nat)(b d:fO)(h:fq->Prop)(w:fq)(R:1<=d.size)(S:a+d.size<=256)(T:b.size<=256)
  (A:ik 181 #[ii f] w λe J=>e=qr #[hZ b,fY 0]/\h J)
  (j:∀w1,h w1->f<w1.heap.size/\(∃x y z,w1.c f 0=fh x/\w1.c f 1=fh y/\w1.c f 2=fh z)/\∀B,w1.frozen? (ie f B)=fo):
  ik 182 #[ii f,fY (a:Int),hZ d] w λe J=>e=fF (fY 0)/\∃w1 k,h w1/\ju w1 k/\J=mZ k f (ue b d a):=by
 obtain⟨n,i⟩:∃n:Nat,n=max b.size (a+d.size):=⟨_,fX⟩;have V:max (b.size:Int) ((a:Int)+(d.size:Int))=(n:Int):=by omega
 have W:a<n:=by omega
 have C:b.size<=n:=by omega
 obtain⟨D,U,E,F,G⟩:=kM hba;obtain⟨l,c⟩:=oX (b.data.toList++List.replicate (n-b.size) 0:List UInt8);obtain⟨m,g⟩:=oX (xw b.data.toList d.data.toList a:List UInt8);have H:fv m=n:=by rw[g,zf,i,Cg,Cg]
 change fe _ at c g i j
 go_enter func182,ntmps182;go_wp2_with(first
  |(go_at_call 181;refine A.via λw1 o=>?_;have p:fe _:=o;clear o)
  |(at_make;go_loud(refine hBw _ fX _ _ 204 fX 0 5 D _ 1 underlying204 U E F .i64 .i64 _ _ n fX fX fX fX ?_ ?_ (Fr _) ?_;go_must(rw[G];omega);go_must(unfold maxLen;omega);intro I q r;obtain⟨K,L,s⟩:=FM q;have M:fe (ju w1 I):=pz (mi _ _) r;clear q r))
  |(refine Bl fX (.tmp 26) (.tmp 27) 204 9 fX 5 underlying204 LG w1.heap.size 0 n n b fX fX K 5 L C ?_ (Lib.byteCells l).toArray ?_ ?_;go_must(rw[<-pq,s.o,hLO,Rm];omega);go_must(rw[s.o,c.o,Cg];exact XQ (by grind [Cg]));intro w4 N t;have O:=zR M t;clear t)
  |(refine Bl fX (.tmp 31) (.tmp 32) 204 9 fX 5 underlying204 LG w1.heap.size a (n-a) (n-a) d fX fX (Lib.byteCells l).toArray 5 N ?_ ?_ (Lib.byteCells m).toArray ?_ ?_;go_must(omega);go_must(rw[BZ,hLO,c.o,lI,Rm,<-Cg];omega);go_must(rw[g.o,c.o,xw,Cg,Cg,i.o,Cg,Cg];exact hbd _ _ _);intro P Q u;have v:=zR O u;clear u)
  |(go_at_call 212;go_loud(rw[<-H];refine(Vx _ v (j _ p) Q).mono ?_;rintro e X ⟨rfl,rfl⟩)))
 go_ret;exact⟨fX,w1,P,p,v,by unfold ue;rw[<-g.o]⟩
def gT (fg a n:Int):Int:=if(bits BinOp.and IntKind.i64 fg 32 != 0)=fm then n else a
theorem pP{d:fO}(a:1<=d.size):(d.toList==[])=fo:=by
 grind [Av,Cg]
theorem ry(a)(fg b n:Int)(w:fq)(c1:w.c a 1=fh (fY fg))(c2:w.c a 2=fh (fY b)):
  ik 180 #[ii a,fY n] w (UV (fY<|gT fg b n) w):=by
 unfold gT;cases c:(bits BinOp.and IntKind.i64 fg 32 != 0) with
 |true=>exact XN a fg b n w c1 c
 |false=>exact hac a fg b n w c1 c2 c
def SF(a)(fg:Int)(w:fq)(c1:w.c a 1=fh (fY fg))(b:(bits BinOp.and IntKind.i64 fg 2==0)=fo):
  ik 123 #[ii a,hZ kq] w (UV (fY 0) w):=by
 go_enter func123,ntmps123;go_wp2;go_ret;exact⟨fX,fX⟩
theorem XS(a f)(fg b c:Int)(i d:fO)(g:fq->Prop)(w:fq)(c0:w.c a 0=fh (ii f))(c1:w.c a 1=fh (fY fg))(c2:w.c a 2=fh (fY b))
  (o:(bits BinOp.and IntKind.i64 fg 2==0)=fo)(j:1<=d.size)(k:0<=gT fg b 0)(l:gT fg b 0+d.size<=256)(p:c≠0)
  (m:ik 181 #[ii f] w λe J=>e=qr #[hZ i,fY c]/\g J):
  ik 123 #[ii a,hZ d] w λe J=>e=fF (fY c)/\g J:=by
 have h:=ry a fg b 0 w c1 c2;generalize gT fg b 0=H at h k l;have q:=pP j;have r:IntKind.i64.wrap (H+d.size)=H+d.size:=by rw[zv]<;>omega
 go_enter func123,ntmps123;go_wp2_with(first
  |(go_at_call 180;apply h.still)
  |(go_at_call 181;refine m.via λw1 n=>?_))
 go_ret;exact⟨fX,n⟩
theorem hbL(a f)(fg b c:Int)(j d:fO)(h k:fq->Prop)(w:fq)(c0:w.c a 0=fh (ii f))(c1:w.c a 1=fh (fY fg))(c2:w.c a 2=fh (fY b))
  (B:(bits BinOp.and IntKind.i64 fg 2==0)=fo)(u:1<=d.size)(v:0<=gT fg b 0)(x:gT fg b 0+d.size<=256)(y:gT fg b j.size=c)(C:0<=c)(D:c+d.size<=256)
  (z:ik 181 #[ii f] w λe J=>e=qr #[hZ j,fY 0]/\h J)
  (i:∀w1,h w1->w1.c a 0=fh (ii f)/\w1.c a 1=fh (fY fg)/\w1.c a 2=fh (fY b))
  (n:∀w1,h w1->ik 182 #[ii f,fY c,hZ d] w1 λe J=>e=fF (fY 0)/\k J)
  (o:∀g,k g->a<g.heap.size/\g.c a 2=fh (fY b)/\g.frozen? (ie a 2)=fo):
  ik 123 #[ii a,hZ d] w λe J=>e=fF (fY 0)/\∃g,k g/\J=g.setCell (ie a 2) (fY<|c+d.size):=by
 have p:=ry a fg b 0 w c1 c2;have l:=λw1(q:h w1)=>ry a fg b j.size w1 (i w1 q).2.1 (i w1 q).2.2;simp only[y]at l;generalize gT fg b 0=H at p v x;have E:=pP u;have F:IntKind.i64.wrap (H+d.size)=H+d.size:=by rw[zv]<;>omega
 have G:IntKind.i64.wrap (c+d.size)=c+d.size:=by rw[zv]<;>omega
 have A:fe _:=i
 change fe _ at n o l
 clear i;go_enter func123,ntmps123;go_wp2_with(first
  |(go_at_call_of 180 (Value.int .i64 0);apply p.still)
  |(go_at_call 181;refine z.via λw1 m=>?_;have⟨I,K,L⟩:=A w1 m;have r:fe _:=m;clear m)
  |(go_at_call 180;refine(l _ r).still ?_)
  |(go_at_call 182;refine(n _ r).via λs t=>?_;have⟨M,N,O⟩:=o s t))
 go_ret;exact⟨fX,s,t,fX⟩
def nO (w:fq)(b:Nat)(a:Nat->Option Nat):Prop:=b<w.heap.size/\(∀k,k<8->w.cell? ⟨b,1+k,fj⟩=fh (fB ((a k).map λx=>⟨x,0,fj⟩)))/\∀c,w.frozen? ⟨b,c,fj⟩=fo
def JH(x)(a):(binOp .eql 86 (fB fj)<|ii x).run prog a=.ok (fE fo) a:=by kernel_rfl
theorem SG(b k:Nat)(a:Nat->Option Nat)(w)(l:nO w b a)(o:k<8)(c:a k=fj)(d:∀j,j<k->a j≠fj):
  ik 176 #[my b 1 8 8,fB fj] w (UV (fY (k:Int)) w):=by
 have⟨p,e,_⟩:=l
 change fe _ at e d c
 go_enter func176,ntmps176;go_wp2
 go_loopw [8] (λi wr=>∃j:Nat,j<=k/\i=.int .i64 (j:Int)/\wr=w) (λi _=>k-(intOf i).toNat)
 case atStart=>exact⟨0,Fr _,rfl,rfl⟩
 case round=>
  obtain⟨j,q,rfl,rfl⟩:=hrel;have m:j<8:=by omega
  have f:=e j m;by_cases n:j=k
  ·subst n
   rw[c.o,ihi]at f;go_wp2;go_ret;exact⟨fX,fX⟩
  cases g:a j with
  |none=>exact absurd g<|d j (by omega)
  |some x=>
   rw[g,qA]at f;have r:∀h,(binOp .eql 86 (fB fj)<|ii x).run prog h=.ok (fE fo) h:=JH x;go_wp2;go_roundw
   case rel=>exact⟨j+1,by omega,by go_num,trivial⟩
   case measure=>simp[intOf];omega
def JI(b k:Nat)(a:Nat->Option Nat)(w)(c:nO w b a)(f:k<8)(d:a k=fj)(e:∀j,j<k->a j≠fj):
  ik 119 #[fB<|fh (ie b 1)] w (UV (fC #[fY (k:Int),fY 0]) w):=by
 have U:=SG b k a w c f d e;clear c d e;go_enter func119,ntmps119;go_wp2_with(go_at_call 176;refine U.still ?_);go_ret2;exact⟨fX,fX⟩
def XT(b k f:Nat)(fg:Int)(x:fu)(w:fq)(a:b<w.heap.size)(c:w.c b (1+k)=fh x)(d:w.frozen? (ie b<|1+k)=fo)(g:k<8):
  ik 121 #[fB<|fh (ie b 1),fY (k:Int),ii f,fY fg] w λe J=>e=qr #[]/\J=(w.setCell (ie b<|1+k)<|ii w.heap.size).k #[ii f,fY fg,fY 0] 277:=by
 go_enter func121,ntmps121;go_wp2;go_end0;exact⟨fX,fX⟩
def xx(b k x:Nat)(w:fq)(a:w.c b (1+k)=fh (ii x))(c:k<8):
  ik 122 #[fB<|fh (ie b 1),fY (k:Int)] w (UV (fC #[ii x,fY 0]) w):=by
 go_enter func122,ntmps122;go_wp2;go_ret2;exact⟨fX,fX⟩
def OH(b k x:Nat)(w:fq)(d:b<w.heap.size)(a:w.c b (1+k)=fh (ii x))(f:w.frozen? (ie b<|1+k)=fo)(c:k<8):
  ik 124 #[fB<|fh (ie b 1),fY (k:Int)] w λe J=>e=fF (fY 0)/\J=w.setCell (ie b<|1+k) (fB fj):=by
 go_enter func124,ntmps124;go_wp2_with(go_at_call 122;refine(xx b k x w a c).still ?_);go_ret;exact⟨fX,fX⟩
def lA (l:fQ):fO:=⟨(iY<|l.map iT).toArray⟩
theorem xy(s)(w:fq):ik 215 #[hZ s,fA ⟨#[47]⟩] w (UV (fY<|Lib.indexByte s.data.toList 47) w):=by
 by_cases b:s=⟨#[47]⟩
 ·subst b
  go_enter func215,ntmps215;go_wp2;go_ret;exact⟨fX,fX⟩
 have e:([47]==s.toList)=fo:=by
  cases d:([47]==s.toList) with
  |false=>rfl
  |true=>
   have c:[47]=s.toList:=by simpa using d
   rw[Av]at c;exact absurd (bytes_inj (a:=⟨#[47]⟩) c).symm b
 have U:=stringslite_IndexByte s 47 w;rw[show((47:Int).toNat.toUInt8)=47 from fX]at U;generalize Lib.indexByte s.data.toList 47=k at U |-;go_enter func215,ntmps215;go_wp2_with(go_at_call 216;refine U.still ?_);go_ret;exact⟨fX,fX⟩
theorem JJ(s:fO)(w:fq)(a:Lib.indexByte s.data.toList 47=-1):ik 184 #[hZ s,fA ⟨#[47]⟩] w (UV (fC #[hZ s,hZ kq,fE fo]) w):=by
 have U:=xy s w;rw[a]at U;go_enter func184,ntmps184;go_wp2_with(go_at_call 215;refine U.still ?_);exact oa (v:=fC #[hZ s,hZ kq,fE fo]) (by simp[results,results184,go_sem]) fX ⟨fX,fX⟩
theorem XU(s:fO)(k:Nat)(w:fq)(a:Lib.indexByte s.data.toList 47=(k:Int))(b:k<s.size)(c:s.size<=1000):ik 184 #[hZ s,fA ⟨#[47]⟩] w (vd (fC #[hZ<|s.extract 0 k,hZ<|s.extract (k+1) s.size,fE fm]) w):=by
 have U:=xy s w;rw[a]at U;have d:IntKind.i64.wrap ((k:Int)+1)=(k:Int)+1:=by rw[zv]<;>omega
 go_enter func184,ntmps184;go_wp2_with(go_at_call 215;refine U.still ?_)
 go_region
 all_goals
  go_wp2;exact oa (v:=fC #[hZ<|s.extract 0 k,hZ<|s.extract (k+1) s.size,fE fm]) (by simp[results,results184,go_sem]) fX ⟨fX,io<|mi _ _⟩
theorem Bn(s a b)(c:Bool)(w:fq)(d:ik 184 #[hZ s,fA ⟨#[47]⟩] w (vd (fC #[hZ a,hZ b,fE c]) w)):
  ik 128 #[hZ s,fA ⟨#[47]⟩] w (vd (fC #[hZ a,hZ b,fE c]) w):=by
 go_enter func128,ntmps128;go_wp2_with(go_at_call 184;refine d.via λw1 e=>?_);exact oa (v:=fC #[hZ a,hZ b,fE c]) (by simp[results,results128,go_sem]) fX ⟨fX,e⟩
theorem index_first:∀(a b:List UInt8),(∀c∈a,c≠47)->Lib.indexByte (a++47::b) 47=(fv a:Int)
 |[],b,_=>by simp[Lib.indexByte]
 |c::r,b,e=>by
  have g:=index_first r b λd f=>e d<|wC _ f
  grind [oN,Lib.indexByte]
theorem vQ:∀(a:List UInt8),(∀c∈a,c≠47)->Lib.indexByte a 47=-1
 |[],_=>rfl
 |c::r,b=>by
  have f:=vQ r λd e=>b d<|wC _ e
  grind [oN,Lib.indexByte]
theorem JK{x}(a:fN x=fm):∀c∈iT x,c≠47:=by
 have d:Lib.indexByte (iT x) 47<0:=by
  unfold fN at a;simp only[EI,Hz]at a;exact a.2
 have f:=Lib.indexByte_ge (iT x) 47;intro c b e;obtain⟨k,_⟩:=rI b;exact Lib.indexByte_none (l:=iT x) (c:=47) (by omega) k (by grind)
theorem pQ(x:fO){r:fQ}(a:r≠[]):iT (lA (x::r))=iT x++47::iT (lA r):=by
 show(iY<|(x::r).map iT).toArray.toList=_;rw[lM,vI _ (by simpa using a)];rfl
def uM(x:fO):lA [x]=x:=iF fX
def yq:lA []=kq:=fX
def tu(s:fO)(a b):iT (s.extract a b)=((iT s).take b).drop a:=by
 unfold iT;simp[ByteArray.data_extract,List.drop_take]
theorem kuv(x)(r:fQ)(c:fN x=fm)(f:(lA (x::r)).size<=1000)(w:fq):
  ik 128 #[hZ<|lA (x::r),fA ⟨#[47]⟩] w (vd (fC #[hZ x,hZ<|lA r,fE<|!r.isEmpty]) w):=by
 rcases r with _|⟨y,t⟩
 rw[uM,yq];exact Bn _ _ _ _ w ((JJ x w<|vQ _ (JK c)).mono λe J⟨a,b⟩=>⟨a,by rw[b];exact mi _ _⟩);have a:=pQ x (r:=y::t) (by simp);have b:Lib.indexByte (iT<|lA (x::y::t)) 47=(fv (iT x):Int):=by rw[a];exact index_first _ _<|JK c
 have i:(lA (x::y::t)).size=fv (iT x)+1+fv (iT<|lA (y::t)):=by rw[<-PP,a,lI,lg];omega
 have d:=XU (lA (x::y::t)) (fv<|iT x) w b (by omega) f;have g:(lA (x::y::t)).extract 0 (fv<|iT x)=x:=iF (by rw[tu,a,List.take_left,Eb]);have h:(lA (x::y::t)).extract (fv (iT x)+1) (lA (x::y::t)).size=lA (y::t):=iF (by
  rw[tu,oM (by grind),a,show iT x++47::iT (lA (y::t))=(iT x++[47])++iT (lA (y::t)) by simp];exact cse<|by simp)
 rw[g,h]at d;exact Bn _ _ _ _ w d
theorem yt:∀{l:fQ},fL l->(lA l).size<=13*fv l
 |[],_=>by simp[yq,ByteArray.size]
 |[x],a=>by
  rw[uM]
  have:=(xj<|a x (by simp)).2
  simp
  omega
 |x::y::t,a=>by
  have c:=pQ x (r:=y::t)<|by simp
  have d:=(xj<|a x (by simp)).2
  have e:=yt (l:=y::t) λz b=>a z (by simp[b])
  grind [lA,iT,PP,lI,lg]
def gM (w:fq)(b:Nat)(l:fQ):Prop:=b<w.heap.size/\∀k,k<5->w.cell? ⟨b,k,fj⟩=fh (fA<|l.getD k ⟨#[]⟩)/\w.frozen? ⟨b,k,fj⟩=fo
theorem gM.keep(a:gM w b l)(c:ju w J):gM J b l:=
 ⟨nz a.1 c.size,λk d=>⟨((kw c).1 b k a.1).trans (a.2 k d).1,((kw c).2 b k a.1).trans (a.2 k d).2⟩⟩
theorem gM.five(a:gM w b l):(w.c b 0=fh (hZ<|l.getD 0 kq)/\w.c b 1=fh (hZ<|l.getD 1 kq)/\w.c b 2=fh (hZ<|l.getD 2 kq)/\w.c b 3=fh (hZ<|l.getD 3 kq)/\w.c b 4=fh (hZ<|l.getD 4 kq))/\∀k,k<5->w.frozen? (ie b k)=fo:=
 ⟨⟨(a.2 0<|by omega).1,(a.2 1<|by omega).1,(a.2 2<|by omega).1,(a.2 3<|by omega).1,(a.2 4<|by omega).1⟩,λk c=>(a.2 k c).2⟩
def Vy(a:b≠c\/j≠k):((ie b j):Addr)≠(ie c k):=λe=>by
 simp only[Addr.mk.injEq,Eg]at e
 rcases a with a|a
 exact a e.1
 exact a e.2
theorem gM.put{l m:fQ}(a:gM w b l)(d:∀k,k<5->k≠j->m.getD k kq=l.getD k kq)(g:j<5):gM (w.setCell (ie b j)<|hZ (m.getD j kq)) b m:=by
 refine⟨by simpa using a.1,λk c=>⟨?_,by rw[ss1];exact(a.2 k c).2⟩⟩;by_cases e:k=j;subst e;exact World.cell?_setCell_same _ _ _ (a.2 k c).1;rw[seg _ _ _ _<|Vy (.inr λf=>e f.symm),d k c e];exact(a.2 k c).1
theorem gM.set(a:gM w b (l.take j))(c:j<5):gM (w.setCell (ie b j)<|hZ (l.getD j kq)) b (l.take<|j+1):=by
 have:=a.put (m:=l.take<|j+1) (j:=j) (λk d e=>?_) c
 all_goals grind
def gM.over(a:gM w b l)(c:j<5):gM (w.setCell (ie b j)<|hZ (l.getD j kq)) b l:=a.put (λ_ _ _=>rfl) c
theorem gM.other(a:gM w b l)(e:c≠b):gM (w.setCell (ie c j) v) b l:=
 ⟨by simpa using a.1,λk d=>⟨by rw[seg _ _ _ _<|Vy (.inl e)];exact(a.2 k d).1,by rw[ss1];exact(a.2 k d).2⟩⟩
def SH(a:k<5):k=0\/k=1\/k=2\/k=3\/k=4:=by omega
theorem gM.of_block(a:w.heap[b]?=fh (.cells (ml kq kq kq kq kq) 147 (0,0))):gM w b []:=by
 refine⟨(lH.1 a).1,λk c=>?_⟩;rcases SH c with rfl|rfl|rfl|rfl|rfl<;>simp[World.cell?,World.frozen?,a]
def JL(w:fq):gM ((w.k (ml kq kq kq kq kq) 147).k (ml kq kq kq kq kq) 147) w.heap.size []:=.of_block<|bot w _ _
def JM(w:fq):gM ((w.k (ml kq kq kq kq kq) 147).k (ml kq kq kq kq kq) 147) (w.heap.size+1) []:=.of_block<|Wu w _ _
theorem kj(l)(e:Good l)(w:fq):ik 69 #[hZ<|lA l] w (vd (fC #[ln l,fY 0]) w):=by
 have ab:=yt e.val;have au:=e.len;have hcut:∀j(b:j<fv l)a,ik 128 #[hZ<|lA (l.drop j),fA ⟨#[47]⟩] a (vd (fC #[hZ<|l.getD j kq,hZ<|lA (l.drop<|j+1),fE<|decide (j+1<fv l)]) a):=by
  intro j b a;have g:l.drop j=l[j]::l.drop (j+1):=KR b;have n:fN l[j]=fm:=e.val _<|kK b;have o:(lA<|l.drop j).size<=1000:=by
   have:=yt (l:=l.drop j) λx f=>e.val x<|Ws f
   have av:fv (l.drop j)<=5:=by rw[rL];omega
   omega
  rw[g]at o
  have:=kuv l[j] (l.drop<|j+1) n o a
  rw[<-g]at this;have p:(!(l.drop<|j+1).isEmpty)=decide (j+1<fv l):=by
   by_cases q:j+1<fv l;rw[iE q,KR q];rfl;rw[yv q,Wm<|by omega];rfl
  rw[p]at this;rw[yN,jG b,jI];exact this
 have I:∀j(b:j<fv l)a,ik 129 #[hZ<|l.getD j kq] a (UV (fE fm) a):=by
  intro j b a;have n:fN l[j]=fm:=e.val _<|kK b;rw[yN,jG b,jI]
  have:=Ch l[j] a (by have:=(xj n).2;unfold maxLen;omega)
  rwa [n]at this
 have J:∀j a,ik 130 #[hZ<|l.getD j kq] a (vd (hZ<|l.getD j kq) a):=λj a=>xY _ a (by
  rw[yN];rcases b:l[j]? with _|x
  simp[ByteArray.size]
  have:=(xj<|e.val x (cls b)).2
  rw[jI];omega)
 have aw:(!(lA l).toList.isEmpty)=decide (0<fv l):=by
  rw[mE]
  match l,e with
  |[],_=>rfl
  |[x],e=>
   have:=OB<|e.val x (by simp)
   rw[mE]at this;rw[uM];rcases q:iT x with _|⟨c,r⟩
   rw[q]at this;cases this;rfl
  |x::y::r,_=>
   rw[pQ x<|by simp];simp
 change fe _ at hcut I J
 clear ab;go_enter func69,ntmps69;go_wp2;have ac:fe (gM ((w.k (ml kq kq kq kq kq) 147).k (ml kq kq kq kq kq) 147) w.heap.size []):=JL w;have ad:fe (gM ((w.k (ml kq kq kq kq kq) 147).k (ml kq kq kq kq kq) 147) (w.heap.size+1) []):=JM w
 go_loopw [5,6,7] (λr m i wr=>∃j:Nat,j<=fv l/\i=.int .i64 (j:Int)/\m=fE (decide (j<fv l))/\r=fA (lA<|l.drop j)/\ju w wr/\fe (gM wr w.heap.size [])/\fe (gM wr (w.heap.size+1)<|l.take j)) (λ_ _ i _=>fv l-(intOf i).toNat)
 case atStart=>exact⟨0,Fr _,rfl,rfl,rfl,((mi _ _).alloc (lw _) _).alloc (by simp) _,ac,ad⟩
 case round=>
  obtain⟨j,b,rfl,rfl,rfl,K,L,s⟩:=hrel;by_cases z:j<fv l
  ·rw[iE z]
   have M:j<5:=by omega
   have ax:((j:Int)==5)=fo:=by simp;omega
   have ay:(j:Int)<5:=by omega
   have B:=hcut j z;have N:=I j z;have ae:w.heap.size+1<wr.heap.size:=s.1;generalize o:decide (j+1<fv l)=az at B;have af:fe _:=o;generalize f:l.getD j kq=x at B N;have A:fe _:=f;clear o f;go_wp2_with fail;refine Hk (B wr) λw1 d=>?_;have O:w.heap.size+1<w1.heap.size:=nz ae d.size;have ag:=((s.o.keep d).2 j M);have⟨ah,aA⟩:=ag;generalize (l.take j).getD j kq=aB at ah;go_wp2_with(go_at_call 129;apply tB<|N _);go_roundw
   case rel=>
    refine⟨j+1,by omega,by go_num,by rw[af.o],fX,?_,(L.o.keep d).other<|by omega,?_⟩;refine wD ?_ (by simp) _;exact gS K d;rw[<-A.o];exact(s.o.keep d).set M
   case measure=>simp[intOf];omega
  rw[yv z];have ai:j=fv l:=by omega
  subst ai;rw[sL]at s;rw[hX1];go_wp2
  go_loopw [32] (λi wr=>∃k:Nat,k<=5/\i=.int .i64 (k:Int)/\ju w wr/\fe (gM wr w.heap.size [])/\fe (gM wr (w.heap.size+1) l)) (λi _=>5-(intOf i).toNat)
  case atStart=>exact⟨0,by omega,rfl,K,L,s⟩
  case round=>
   obtain⟨k,aC,rfl,P,C,t⟩:=hrel;have aD:w.heap.size<wr.heap.size:=C.o.1;have O:w.heap.size+1<wr.heap.size:=t.1;by_cases D:k<5
   ·have aj:(k:Int)<5:=by omega
    have⟨ak,aE⟩:=t.2 k D;have Q:=J k;generalize f:l.getD k kq=x at Q ak;have A:fe _:=f;clear f;go_wp2_with fail;refine Hk (Q wr) λw1 d=>?_;have⟨al,aF⟩:=(t.keep d).2 k D;rw[A.o]at al;have aG:w.heap.size+1<w1.heap.size:=nz O d.size;go_wp2;go_roundw
    case rel=>
     refine⟨k+1,by omega,by go_num,?_,(C.o.keep d).other<|by omega,?_⟩;refine wD ?_ (by simp) _;exact gS P d;rw[<-A.o];exact(t.o.keep d).over D
    case measure=>simp[intOf];omega
   have aj:¬(k:Int)<5:=by omega
   have⟨⟨am,an,ao,ap,aq⟩,ar⟩:=t.five;have⟨⟨R,S,T,U,V⟩,h⟩:=C.five;have aH:=h 0 (by omega);have aI:=h 1 (by omega);have aJ:=h 2 (by omega);have aK:=h 3 (by omega);have aL:=h 4 (by omega);clear ar h;have⟨H,W,X,Y,Z,aa⟩:=sk l;simp only[jn,Array.mk.injEq,Ce,Value.string.injEq,Eg]at aa;have⟨E,g,p,F,G⟩:=aa;rw[E]at am;rw[g]at an;rw[p]at ao;rw[F]at ap;rw[G]at aq;have u:fe _:=And.intro E<|And.intro g (And.intro p<|And.intro F G);clear E g p F G;simp only[tW]at R S T U V;have n:ln l=fD (ml H W X Y Z):=by
    unfold ln jn;rw[u.o.1,u.o.2.1,u.o.2.2.1,u.o.2.2.2.1,u.o.2.2.2.2]
   go_wp2;exact oa (v:=fC #[fD<|ml H W X Y Z,fY 0]) (by simp[results,results69,go_sem,R,S,T,U,V]) fX ⟨fX,by
    repeat(refine wD ?_ (by simp) _)
    exact P⟩
def letters:fQ:=[⟨#[97]⟩,⟨#[98]⟩,⟨#[99]⟩,⟨#[100]⟩]
abbrev gC:=Nat->Nat×Nat
def lD (T:gC)(w:fq):Prop:=∀k,w.heap.size<=k->T k=(0,0)
structure fI (P:Nat×Nat->Prop)(tg tg':gC)(w w':World):Prop where
 os:w'.os=w.os
 tape:w'.tape=w.tape
 output:w'.output=w.output
 size:w.heap.size<=w'.heap.size
 tags:∀k,k<w.heap.size->tg' k=tg k
 block:∀k,k<w.heap.size->¬P (tg k)->w'.heap[k]?=w.heap[k]?
 fresh:lD tg w->lD tg' w'
theorem fI.refl(P:Nat×Nat->Prop)(T)(w):fI P T T w w:=⟨fX,fX,fX,lw _,λ_ _=>rfl,λ_ _ _=>rfl,id⟩
theorem fI.fK{T}(a:ju w J):fI P T T w J:=⟨a.os,a.tape,a.output,a.size,λ_ _=>rfl,λk b _=>a.block k b,λc k b=>c k<|ww a.size b⟩
theorem fI.trans{T M d}{w J e}(a:fI P T M w J)(k:fI P M d J e):fI P T d w e:=
 ⟨k.os.trans a.os,k.tape.trans a.tape,k.output.trans a.output,ww a.size k.size,λb c=>(k.tags b (nz c a.size)).trans<|a.tags b c,
  λb c f=>(k.block b (nz c a.size) (by rw[a.tags b c];exact f)).trans<|a.block b c f,λg=>k.fresh<|a.fresh g⟩
theorem fI.mono{P b:Nat×Nat->Prop}{T M}(a:fI P T M w J)(c:∀t,P t->b t):fI b T M w J:=
 ⟨a.os,a.tape,a.output,a.size,a.tags,λk d e=>a.block k d λf=>e<|c _ f,a.fresh⟩
def kV (T:gC)(b:Nat)(t:Nat×Nat):gC:=λk=>if k=b then t else T k
theorem nu(T)(b)(t):kV T b t b=t:=by unfold kV;rw[lv fX]
def xt{T}(a:k≠b)(t):kV T b t k=T k:=by unfold kV;rw[km a]
theorem fI.at{T M}(a:fI P T M w J){o:Obj}(c:w.heap[b]?=fh o)(e:T b=t)(f:¬P t):J.heap[b]?=fh o/\M b=t:=by
 have d:=(lH.1 c).1;exact⟨(a.block b d (by grind)).trans c,(a.tags b d).trans e⟩
def oT (T:gC)(w:fq)(t:Nat×Nat)(v:fu)(es:List fV):Prop:=w.ownsRow 0 96 3 v (fv es) (flat es)/\∀g,v.ownBlock=fh g->T g=t
def oT.keep{T M:gC}(b:oT T w t v es)(c:∀g,v.ownBlock=fh g->g<w.heap.size->J.heap[g]?=w.heap[g]?/\M g=T g):oT M J t v es:=
 ⟨gg b.1 λg a=>(c g a (gc b.1 a)).1,λg a=>((c g a<|gc b.1 a).2).trans<|b.2 g a⟩
theorem oT.moves{T M}(a:oT T w t v es)(m:fI P T M w J)(c:¬P t):oT M J t v es:=
 a.keep λg d b=>⟨m.block g b (by rw[a.2 g d];exact c),m.tags g b⟩
def CA (T:gC)(w:fq)(ft:kE)(got:List Int):Prop:=w.ownsRow 0 29 1 (fy ft.a ft.n ft.c) ft.n (got.map<|Value.int .i64)/\ft.n=fv got/\∀g,(Value.slice ft.a ft.n ft.c).ownBlock=fh g->T g=(1,1)
structure jq (tg:gC)(w:World)(s p:Nat)(gI:List Ob)(got:List Int)(brk:Bool)(lim:Nat):Prop where
 fresh:lD tg w
 ex:∃ft:kE,ft.b=brk/\gP ft (fun k=>tg k=(1,0)) w s p gI/\CA tg w ft got/\Sound gI/\got.length<=lim
theorem jq.sound{T}(a:jq T w s p A got brk I):Sound A:=by
 obtain⟨_,ft,_,_,_,b,_⟩:=a;exact b
theorem yu{c}{e}{a}{b}(d:w.ownsRow c e a v n b):w.ownsRow 0 e a v n b:=by
 obtain⟨f,g⟩:=d;refine⟨f,?_⟩
 grind
theorem CA.moves{T M}(a:CA T w ft got)(m:fI P T M w J)(c:¬P (1,1)):CA M J ft got:=
 ⟨gg a.1 λg b=>m.block g (gc a.1 b) (by rw[a.2.2 g b];exact c),a.2.1,λg b=>(m.tags g (gc a.1 b)).trans<|a.2.2 g b⟩
theorem jq.moves{T M}(b:jq T w s p A got brk I)(m:fI P T M w J)(i:¬P (1,0))(c:¬P (1,1)):jq M J s p A got brk I:=by
 obtain⟨d,ft,e,U,f,g,h⟩:=b;exact⟨m.fresh d,ft,e,U.keep (λk a hF=>m.block k a (by grind)) λk a hF=>(m.tags k a).trans hF,f.moves m c,g,h⟩
theorem jq.mono{T}(a:jq T w s p A got brk I)(b:I<=jW):jq T w s p A got brk jW:=by
 obtain⟨c,ft,d,U,e,f,a⟩:=a;exact⟨c,ft,d,U,e,f,ww a b⟩
theorem jq.zg{T M}(d:jq T w s p A got brk I)(e:lD M w)(b:∀k,(T k).1=1->M k=T k):jq M w s p A got brk I:=by
 obtain⟨_,ft,f,U,a,h,i⟩:=d;exact⟨e,ft,f,U.keep (λk _ _=>rfl) λk _ hF=>(b k (by rw[hF])).trans hF,⟨a.1,a.2.1,λg c=>(b g (by rw[a.2.2 g c])).trans<|a.2.2 g c⟩,h,i⟩
structure WB where
 wb:Nat
 bt:Nat
 sF:Nat
 sD:Nat
 mF:Nat
 mD:Nat
 oF:Nat
 oD:Nat
structure WG where
 base:Int
 ft:FT
 fs:b6
 fl:Nat->Option (Int×fO)
 op:Nat->Option (Nat×Nat×Int×Int)
def ptr (b:Nat):fu:=fB<|fh ⟨b,0,fj⟩
def Bo (a:Option (Nat×Nat×Int×Int)):fu:=fB (a.map λx=>⟨x.1,0,fj⟩)
structure JN (tg:gC)(w:World)(i p:Nat)(B:WB)(base root:Int):Prop where
 tt:tg B.bt=(i,1)
 tF:tg B.sF=(i,1)
 tD:tg B.sD=(i,1)
 ht:w.heap[B.bt]?=some (.cells #[ptr p,ptr B.sF,ptr B.sD,.int .i64 base,.string ⟨#[]⟩,.int .i64 2,.int .i64 root,.map (some B.oF),.map (some B.oD)] 164 (0,0))
 hF:w.heap[B.sF]?=some (.cells #[.func (.func 115) #[ptr p] #[],.map (some B.mF)] 267 (0,0))
 hD:w.heap[B.sD]?=some (.cells #[.func (.func 117) #[ptr p] #[],.map (some B.mD)] 271 (0,0))
theorem JN.moves{T M}{B}{c d:Int}(a:JN T w i p B c d)(m:fI P T M w J)(b:¬P (i,1)):JN M J i p B c d:=by
 obtain⟨e,f⟩:=m.at a.ht a.tt b;obtain⟨g,h⟩:=m.at a.hF a.tF b;obtain⟨j,k⟩:=m.at a.hD a.tD b;exact⟨f,h,k,e,g,j⟩
theorem kz.moves{T M}{k}{a}(c:kz w k b n a)(m:fI P T M w J)(e:T b=t)(f:¬P t):kz J k b n a/\M b=t:=by
 have d:=c.lt;exact⟨c.keep<|m.block b d (by grind),(m.tags b d).trans e⟩
def LH (id:Int):Lit:=.int .i64 id
def Bp (T:gC)(w:fq)(i:Nat)(B:WB)(A:List Ob)(kF:Int->Bool)(I:Nat):Prop:=
 T B.mF=(i,2)/\∃n a,n<=I/\kz w 29 B.mF n a/\(∀id,a (LH id)=if kF id then fh (fA (bytesOf A id))else fj)/\∀id,kF id=fm->fJ A id=1
def Bq (T:gC)(w:fq)(i:Nat)(B:WB)(A:List Ob)(kD:Int->Bool)(I:Nat):Prop:=
 T B.mD=(i,3)/\∃n a,∃b:Int->fu,n<=I/\kz w 29 B.mD n a/\(∀id,a (LH id)=if kD id then fh (b id)else fj)/\∀id,kD id=fm->fJ A id=2/\oT T w (i,3) (b id) (fT A id)
theorem Bp.moves{T M}{B}(a:Bp T w i B A kF I)(m:fI P T M w J)(c:¬P (i,2)):Bp M J i B A kF I:=by
 obtain⟨d,n,e,f,g,h,j⟩:=a;obtain⟨k,b⟩:=g.moves m d c;exact⟨b,n,e,f,k,h,j⟩
theorem Bq.moves{T M}{B}(d:Bq T w i B A kD I)(m:fI P T M w J)(a:¬P (i,3)):Bq M J i B A kD I:=by
 obtain⟨e,n,f,g,h,j,k,c⟩:=d;obtain⟨l,b⟩:=j.moves m e a;exact⟨b,n,f,g,h,l,k,λid hid=>⟨(c id hid).1,(c id hid).2.moves m a⟩⟩
def jT (w:fq)(b n:Nat)(f:fQ->Option fu):Prop:=
 ∃a,kz w 147 b n a/\(∀p,Good p->a (qm prog p)=f p)/\∀c,WideAt.IsKeyLit c->a c≠fj->∃p,Good p/\c=qm prog p
def CB (T:gC)(w:fq)(i:Nat)(B:WB)(of:fQ->Option Nat)(I:Nat):Prop:=
 T B.oF=(i,4)/\(∃n,n<=I/\jT w B.oF n λp=>(of p).map ptr)/\∀p f,of p=fh f->Good p
structure gD (tg:gC)(w:World)(i:Nat)(B:WB)(od:fQ->Option (List fV))(lim:Nat)(vD:fQ->Value):Prop where
 tag:tg B.oD=(i,5)
 map:∃n,n<=lim/\jT w B.oD n (fun p=>(od p).map fun _=>vD p)
 good:∀p es,od p=some es->Good p/\fP es/\es.length<=16/\∀e∈es,fN e.1=true/\(e.2.1=1\/e.2.1=2)
 row:∀p es,od p=some es->oT tg w (i,5) (vD p) es
 inj:∀p q es fs g,od p=some es->od q=some fs->(vD p).ownBlock=some g->(vD q).ownBlock=some g->p=q
def aco (T:gC)(w:fq)(i:Nat)(B:WB)(od:fQ->Option (List fV))(I:Nat):Prop:=∃O,gD T w i B od I O
theorem jT.keep{f:fQ->Option fu}(a:jT w b n f)(e:J.heap[b]?=w.heap[b]?):jT J b n f:=by
 obtain⟨c,d,g,h⟩:=a;exact⟨c,d.keep e,g,h⟩
theorem jT.lt{f:fQ->Option fu}(a:jT w b n f):b<w.heap.size:=by
 obtain⟨d,c,_⟩:=a;exact c.lt
theorem CB.moves{T M}{B}(b:CB T w i B of I)(m:fI P T M w J)(f:¬P (i,4)):CB M J i B of I:=by
 obtain⟨c,⟨n,d,a⟩,e⟩:=b;exact⟨(m.tags _ a.lt).trans c,⟨n,d,a.keep<|m.block _ a.lt (by grind)⟩,e⟩
theorem gD.moves{T M}{B}(b:gD T w i B od I O)(m:fI P T M w J)(c:¬P (i,5)):gD M J i B od I O:=by
 obtain⟨d,⟨n,e,a⟩,f,g,U⟩:=b;exact⟨(m.tags _ a.lt).trans d,⟨n,e,a.keep<|m.block _ a.lt (by grind)⟩,f,λp es h=>(g p es h).moves m c,U⟩
def Ex (T:gC)(w:fq)(i:Nat)(B:WB)(fl:Nat->Option (Int×fO)):Prop:=
 ∀f id d,fl f=fh (id,d)->T f=(i,6)/\w.heap[f]?=fh (.cells #[fB<|if id=0 then fj else fh ⟨B.sF,0,fj⟩,.int .i64 id,fA d] 308 (0,0))/\d.size<=256
theorem Ex.moves{T M}{B}(a:Ex T w i B fl)(m:fI P T M w J)(c:¬P (i,6)):Ex M J i B fl:=λf id d e=>by
 obtain⟨g,h,j⟩:=a f id d e
 obtain⟨k,b⟩:=m.at h g c
 exact⟨b,k,j⟩
structure yw (tg:gC)(w:World)(i:Nat)(B:WB)(fl:Nat->Option (Int×fO))(op:Nat->Option (Nat×Nat×Int×Int)):Prop where
 tw:tg B.wb=(i,0)
 hw:w.heap[B.wb]?=some (.cells #[ptr B.bt,Bo (op 0),Bo (op 1),Bo (op 2),Bo (op 3),Bo (op 4),Bo (op 5),Bo (op 6),Bo (op 7)] 91 (0,0))
 past:∀k,8<=k->op k=none
 at_:∀k b f fg pl,op k=some (b,f,fg,pl)->tg b=(i,7)/\w.heap[b]?=some (.cells #[ptr f,.int .i64 fg,.int .i64 pl] 277 (0,0))/\(∃x,fl f=some x)/\0<=fg/\fg<64/\0<=pl/\pl<=256
 inj:∀k l x y,op k=some x->op l=some y->x.1=y.1->k=l
theorem yw.moves{T M}{B}{c:Nat->Option (Nat×Nat×Int×Int)}(a:yw T w i B fl c)(m:fI P T M w J)(d:¬P (i,0))(e:¬P (i,7)):yw M J i B fl c:=by
 obtain⟨g,b⟩:=m.at a.hw a.tw d;refine⟨b,g,a.past,λk b f fg h j=>?_,a.inj⟩;obtain⟨l,n,o⟩:=a.at_ k b f fg h j;obtain⟨H,p⟩:=m.at n l e
 grind
def oW (A:List Ob)(e:fV):Prop:=(e.2.1=1\/e.2.1=2)/\(e.2.2≠0->fJ A e.2.2=e.2.1)
structure aaG (gI:List Ob)(ft:FT):Prop where
 root:ft.root≠0->fJ gI ft.root=2
 od:∀p es,ft.od p=some es->∀e∈es,oW gI e
structure qF (tg:gC)(w:World)(i p:Nat)(B:WB)(gI:List Ob)(g:WG)(lim:Nat):Prop where
 tree:JN tg w i p B g.base g.ft.root
 nP:Bp tg w i B gI g.fs.kF lim
 nQ:Bq tg w i B gI g.fs.kD lim
 uf:CB tg w i B g.ft.of lim
 qo:aco tg w i B g.ft.od lim
 files:Ex tg w i B g.fl
 held:∀q f,g.ft.of q=some f->∃x,g.fl f=some x
 opens:yw tg w i B g.fl g.op
 ok:aaG gI g.ft
theorem qF.moves{T M}{B}{g}(a:qF T w i p B A g I)(m:fI P T M w J)(b:∀k,¬P (i,k)):qF M J i p B A g I:=by
 obtain⟨O,c⟩:=a.qo;exact⟨a.tree.moves m<|b 1,a.nP.moves m<|b 2,a.nQ.moves m<|b 3,a.uf.moves m<|b 4,⟨O,c.moves m<|b 5⟩,a.files.moves m<|b 6,a.held,a.opens.moves m (b 0)<|b 7,a.ok⟩
structure fZ (tg:gC)(w:World)(s i p:Nat)(B:WB)(gI:List Ob)(g:WG)(lim:Nat):Prop where
 two:2<=i
 st:jq tg w s p gI g.fs.got g.fs.brk lim
 wp:qF tg w i p B gI g lim
def Mine (i:Nat)(t:Nat×Nat):Prop:=t.1=1\/t.1=i
theorem fZ.below{T}{B}{g}(a:fZ T w s i p B A g I)(b:ju w J):fZ T J s i p B A g I:=by
 have m:fI (λ_=>False) T T w J:=fI.fK b;exact⟨a.two,a.st.moves m id id,a.wp.moves m λ_=>id⟩
def hca:(prog.info? 29).map (λi=>(i.zero,i.size,i.bytes))=fh (fh<|fY 0,1,8):=by kernel_rfl
def OI(p)(c)(n h d f)(id:Int)(w)(a:gw ft w p c n h d f)(b:ft.b=fm):
  ik 174 #[ii p,fY id] w λe J=>e=fF (fY 14)/\J=w.setCell (ie p 4) (fE fo):=by
 have c4:w.c p 4=fh (fE fm):=by unfold gw at a;simp[World.cell?,a,b]
 have f4:w.frozen? (ie p 4)=fo:=by unfold gw at a;simp[World.frozen?,a]
 clear a b;go_enter func174,ntmps174;go_wp2;go_ret;exact⟨fX,fX⟩
def ttl(w:fq)(c0:fu)(t:ni):∀j b,[c0][j]?=fh b->(w.k #[c0] t).cell? (((ie w.heap.size 0):Addr).add j)=fh b:=by
 intro j b a
 match j,a with
 |0,a=>simpa [Addr.add]using a
 |j+1,a=>simp at a
def OJ(b:(w.alloc o1).grownBy w1 r)(c:p<w.heap.size)(d:fh p≠r)(e:w.cell? (ie p i)=fh v):w1.cell? (ie p i)=fh v:=by
 rw[wJ (a:=(ie p i))<|b.block p (by simp;omega) d,hyz _ _ _ c,e]
def Iq(b:(w.alloc o1).grownBy w1 r)(c:p<w.heap.size)(d:fh p≠r)(e:w.frozen? (ie p i)=fo):w1.frozen? (ie p i)=fo:=by
 rw[Rj (a:=(ie p i))<|b.block p (by simp;omega) d,rrs _ _ _ c,e]
theorem SI(p:Nat)(a:iD)(n c)(d)(id:Int)(w:fq)(h:p<w.heap.size)(c3:w.c p 3=fh (fy a n c))(f3:w.frozen? (ie p 3)=fo)(c4:w.c p 4=fh (fE fo))
  (i:w.ownsRow 0 29 1 (fy a n c) n d)(j:fh p≠(Value.slice a n c).ownBlock)(v:n<1099511627776):
  ik 174 #[ii p,fY id] w λe J=>e=fF (fY 0)/\
   ∃g b w1,w1.ownsRow 0 29 1 (my g 0 (n+1) b) (n+1) (d++[fY id])/\(∃o1,(w.alloc o1).grownBy w1 (Value.slice a n c).ownBlock/\((fh g:Option Nat)=(Value.slice a n c).ownBlock\/g=w.heap.size+1))/\J=w1.setCell (ie p 3) (my g 0 (n+1) b):=by
 have⟨o,U,q,r,s⟩:=kM hca;have t:=i;have k:=j;clear i j;go_enter func174,ntmps174;go_wp2_with(first|(at_builtin;go_loud(refine clz _ fX (.tmp 16) (.tmp 18) 59 fX 0 29 o _ 1 8 underlying59 U q r s fX (by decide) (fy a n c) n d fX (t.alloc _) (ie w.heap.size 0) 1 1 [fY id] fX fX (ttl w (fY id) 29) (by intro x l;simp at l;subst l;rfl) (by unfold maxLen;omega) (by omega) (Fr _) ?_;intro y w1 m f _ u;obtain⟨g,b,rfl⟩:=hh m (by omega);have z:=OJ f h k c3;have A:=Iq f h k f3))|go_in);go_ret;exact⟨fX,g,b,w1,m,⟨_,f,by simpa [Value.ownBlock]using u⟩,fX⟩
theorem gP.tail{ft u:kE}{c x:Nat->Prop}(o:gP ft c w s p A)(D:∀d n h f j,gw ft w p d n h f j->gw u J p d n h f j)(l:∀k,k<w.heap.size->c k->k≠p->J.heap[k]?=w.heap[k]?)(hF:∀k,k<w.heap.size->c k->x k):gP u x J s p A:=by
 have⟨d,h,f,j,E,F,i⟩:=o;have Y:=(lH.1 i.hs).1;have G:=oq i.hs i.gQ.at_ (by decide);have y:∀{b:Nat}{es:Array MapEntry}{H:Nat},w.heap[b]?=fh (.map es H)->b≠p:=λI e=>by subst e;have:=i.gQ.at_;unfold gw at this;rw[I]at this;cases this
 have⟨V,c1,K⟩:=pu i.files;have⟨W,c2,L⟩:=pu i.rQ;have z:∀v m t k q,w.ownsRow 0 t k v m q->t≠185->(∀g,v.ownBlock=fh g->c g)->J.ownsRow 0 t k v m q:=λv m t k q r M hFg=>gg r (λg a=>l g (gc r a) (hFg g a) (λe=>by
  subst e;exact il r i.gQ.at_ (λe=>M e.symm) a.symm))
 refine⟨d,h,f,j,E,F,⟨hF _ Y i.fs,hF _ i.gQ.at_.lt i.fp,hF _ i.files.lt i.ff,hF _ i.rQ.lt i.fd,λg a=>hF g (gc i.gQ.row a)<|i.fr g a,(l s Y i.fs G).trans i.hs,⟨D _ _ _ _ _ i.gQ.at_,z _ _ _ _ _ i.gQ.row (by decide) i.fr,i.gQ.len,i.gQ.many⟩,i.ne,
  pC i.files (l _ i.files.lt i.ff<|y K),i.lZ,pC i.rQ<|l _ i.rQ.lt i.fd (y L),i.ot,λN O=>?_⟩⟩
 rcases i.zx N O with o|⟨P,Q,R,S,T,U,B,C⟩
 exact .inl o;exact .inr ⟨P,Q,R,S,T,U,λg a=>hF g (gc C a)<|B g a,z _ _ _ _ _ C (by decide) B⟩
def OL (t:Nat×Nat):Prop:=t=(1,0)\/t=(1,1)
def uN (s p:Nat)(A:List Ob)(got:List Int)(brk:Bool)(I:Nat)(id:Int)(T:gC)(w:fq)(a:Int):Prop:=
 (brk=fm/\a=14/\jq T w s p A got fo I)\/(brk=fo/\a=0/\jq T w s p A (got++[id]) fo (I+1))
theorem Dm{T}(f:jq T w s p A got brk I)(Y:I<1099511627776)(id:Int):
  ik 174 #[ii p,fY id] w λe J=>∃q,e=fF (fY q)/\∃M,fI OL T M w J/\uN s p A got brk I id M J q:=by
 obtain⟨B,ft,r,U,c,t,C⟩:=f;have D:=U;obtain⟨E,h,F,G,Z,aa,i⟩:=D;have d:=i.gQ.at_;have K:=d.lt;have u:=i.fp;have v:=il c.1 d (by decide);cases brk with
 |true=>
  refine(OI p E (fv A) h F G id w d r).mono ?_;rintro e J ⟨rfl,rfl⟩;refine⟨14,fX,T,⟨fX,fX,fX,by simp,λ_ _=>rfl,λk a l=>sI _ _ _ _ λe=>l (by rw[e,u];exact .inl fX),λx k a=>x k (by simpa using a)⟩,.inl ⟨fX,fX,λk a=>B k (by simpa using a),{ ft with b:=fo },fX,?_,⟨?_,c.2.1,c.2.2⟩,t,C⟩⟩;refine U.tail (λH L y N O n=>?_) (λk a hF m=>sI _ _ _ _ m) λk a hF=>hF;unfold gw at n |-;simp[World.setCell,ED,n];exact gg c.1 λg P=>sI _ _ _ _ λe=>v (by rw[P,e])
 |false=>
  have c3:w.c p 3=fh (fy ft.a ft.n ft.c):=by unfold gw at d;simp[World.cell?,d]
  have f3:w.frozen? (ie p 3)=fo:=by unfold gw at d;simp[World.frozen?,d]
  have c4:w.c p 4=fh (fE fo):=by unfold gw at d;simp[World.cell?,d,r]
  refine(SI p ft.a ft.n ft.c _ id w K c3 f3 c4 c.1 v (by rw[c.2.1];omega)).mono ?_;rintro e J ⟨rfl,g,y,w1,Q,⟨o1,j,R⟩,rfl⟩;have S:=j.size;simp at S;have V:∀k,k<w.heap.size->fh k≠(Value.slice ft.a ft.n ft.c).ownBlock->w1.heap[k]?=w.heap[k]?:=λk a m=>by
   rw[j.block k (by simp;omega) m,sK _ _ _ a]
  have W:g≠p:=by
   all_goals grind
  have FN:∀k,T k=(1,0)->fh k≠(Value.slice ft.a ft.n ft.c).ownBlock:=λk a e=>by have:=c.2.2 k e.symm;rw[a]at this;cases this
  refine⟨0,fX,λk=>if k<w.heap.size then T k else if k<w1.heap.size then(1,1) else(0,0),⟨j.os,j.tape,j.output,by simp;omega,λk a=>lv a,λk a l=>?_,λx k a=>?_⟩,.inr ⟨fX,fX,λk a=>?_,⟨fh<|ie g 0,ft.n+1,y,fo⟩,fX,?_,⟨?_,?_,λz o=>?_⟩,t,by simp;omega⟩⟩;rw[sI _ _ _ _ λe=>l (by rw[e,u];exact .inl fX),V k a λe=>l<|.inr (c.2.2 k e.symm)]
  ·have X:w1.heap.size<=k:=by simpa using a
   all_goals grind
  ·have X:w1.heap.size<=k:=by simpa using a
   all_goals grind
  ·refine U.tail (λH L ab N O n=>?_) (λk a hF m=>?_) (λk a hF=>by show(if _ then _ else _)=_;rw[lv a];exact hF)
   all_goals grind [gw,World.setCell,sI]
  rw[nZ];exact gg Q (λz o=>by cases o;exact sI _ _ _ _ W);simp[c.2.1];obtain rfl:g=z:=by simpa [Value.ownBlock]using o
  show(if _ then _ else _)=_;rcases R with f|f
  rw[lv<|gc c.1 f.symm];exact c.2.2 g f.symm
  all_goals grind [gc]
theorem FO(a:j<fv A):bytesOf A ((j:Int)+1)=A[j].data:=by
 grind [bytesOf,Int,jG]
theorem XV(a:j<fv A):fT A ((j:Int)+1)=A[j].gh:=by
 grind [fT,Int,jG]
section
variable {T:gC}
theorem jq.file(a:jq T w s p A got brk I)(f:fJ A id=1):
  ik 84 #[ii p,fY id] w (vd (fC #[hZ (bytesOf A id),fY 0]) w):=by
 have⟨_,ft,_,⟨b,h,c,d,g,k,i⟩,_⟩:=a;refine(Nr p b (fv A) h c d A id w i.gQ).mono ?_;rintro e J ⟨l,⟨m,_⟩|⟨j,n,rfl,_,o⟩⟩
 all_goals grind [absurd,FO]
theorem jq.dir(a:jq T w s p A got brk I)(b:fJ A id=2):
  ik 85 #[ii p,fY id] w λe J=>∃g,e=qr #[fy (fh<|ie g 0) (fv<|fT A id)<|fv (fT A id),fY 0]/\J.ownsRow w.heap.size 96 3 (fy (fh<|ie g 0) (fv<|fT A id)<|fv (fT A id)) (fv<|fT A id) (flat<|fT A id)/\ju w J:=by
 have⟨_,ft,_,⟨c,h,d,f,k,l,i⟩,_⟩:=a;refine(Fb i id).mono ?_;rintro e J ⟨⟨m,_⟩|⟨j,n,rfl,_,g,o,q⟩,r⟩
 all_goals grind [absurd,XV]
theorem zh(a:jq T w s p A got brk I)(i:I<1099511627776)(o:fJ A id=1):
  ik 115 #[ii p,fY id] w λe J=>∃b,e=qr #[hZ<|if b=0 then bytesOf A id else kq,fY b]/\∃M,fI OL T M w J/\uN s p A got brk I id M J b:=by
 have c:=Dm a i id;clear a i;cases brk with
 |true=>
  have g:ik 174 #[ii p,fY id] w λe J=>e=fF (fY 14)/\∃M,fI OL T M w J/\uN s p A got fm I id M J 14:=c.mono (λe J⟨b,h,M,m,d⟩=>by
   have q:b=14:=by rcases d with⟨_,a,_⟩|⟨a,_⟩;exact a;cases a
   subst q;exact⟨h,M,m,d⟩)
  clear c;go_enter func115,ntmps115;go_wp2_with(go_at_call 174;refine g.via λw1 j=>?_;have r:fe _:=j;clear j);go_ret2;exact⟨14,fX,r⟩
 |false=>
  have g:ik 174 #[ii p,fY id] w λe J=>e=fF (fY 0)/\∃M,fI OL T M w J/\jq M J s p A (got++[id]) fo (I+1):=c.mono (λe J⟨b,h,M,m,d⟩=>by
   rcases d with⟨a,_⟩|⟨_,rfl,f⟩
   cases a;exact⟨h,M,m,f⟩)
  clear c;go_enter func115,ntmps115;go_wp2_with(first
   |(go_at_call 174;refine g.via λw1⟨t,k,f⟩=>?_;have l:fe _:=f;change fe _ at k;clear f)
   |(go_at_call 84;refine(jq.file l.o o).via λu n=>?_))
  go_ret2;exact⟨0,by rw[lv fX];rfl,t,k.trans<|fI.fK n,.inr ⟨fX,fX,l.moves (P:=λ_=>False) (fI.fK n) (λx=>x) λx=>x⟩⟩
theorem Br(a:jq T w s p A got brk I)(l:I<1099511627776)(y:fJ A id=2):
  ik 117 #[ii p,fY id] w λe J=>∃b v,e=qr #[v,fY b]/\(b≠0->v=fy fj 0 0)/\∃M,fI OL T M w J/\uN s p A got brk I id M J b/\
   (b=0->∃g,v=fy (fh<|ie g 0) (fv<|fT A id) (fv<|fT A id)/\w.heap.size<=g/\M g=(0,0)/\J.ownsRow 0 96 3 v (fv<|fT A id) (flat<|fT A id)):=by
 have f:=Dm a l id;clear a l;cases brk with
 |true=>
  have i:ik 174 #[ii p,fY id] w λe J=>e=fF (fY 14)/\∃M,fI OL T M w J/\uN s p A got fm I id M J 14:=f.mono (λe J⟨b,j,M,m,c⟩=>by
   have z:b=14:=by rcases c with⟨_,a,_⟩|⟨a,_⟩;exact a;cases a
   subst z;exact⟨j,M,m,c⟩)
  clear f;go_enter func117,ntmps117;go_wp2_with(go_at_call 174;refine i.via λw1 n=>?_;have h:fe _:=n;clear n);go_ret2;have⟨M,m,c⟩:=h;exact⟨14,_,fX,λ_=>rfl,M,m,c,λa=>by cases a⟩
 |false=>
  have i:ik 174 #[ii p,fY id] w λe J=>e=fF (fY 0)/\∃M,fI OL T M w J/\jq M J s p A (got++[id]) fo (I+1):=f.mono (λe J⟨b,j,M,m,c⟩=>by
   rcases c with⟨a,_⟩|⟨_,rfl,d⟩
   cases a;exact⟨j,M,m,d⟩)
  clear f;go_enter func117,ntmps117;go_wp2_with(first
   |(go_at_call 174;refine i.via λw1⟨B,o,d⟩=>?_;have q:fe _:=o;have k:fe _:=d;clear o d)
   |(go_at_call 85;apply (jq.dir k y).mono;rintro e E ⟨g,rfl,r,t⟩;have h:fe _:=r;clear r))
  go_ret2;have d:=k.o;have u:w1.heap.size<=g:=by
   rcases h.2 with⟨a,_⟩|⟨F,_,_,C,D,_⟩
   cases a;cases C;exact D
  exact⟨0,_,fX,λa=>absurd fX a,B,q.o.trans<|fI.fK t,.inr ⟨fX,fX,k.o.moves (P:=λ_=>False) (fI.fK t) (λx=>x) λx=>x⟩,λ_=>⟨g,fX,ww q.o.size u,d.fresh g u,yu h.o⟩⟩
end
def zi:Maps.Keyed prog 29:=Maps.int_keyed underlying29
def Dn(a:(Lit.int .i64 id).wf=fm):keyOf prog 29 (fY id)=fh (LH id):=by
 simp[keyOf,underlying29,mapKey,a,LH]
def CC(w):(zeroValue 55).run prog w=.ok (fy fj 0 0) w:=by kernel_rfl
theorem hcd(b m p n:Nat)(a)(id:Int)(d)(w:fq)(c1:w.c b 1=fh (.map<|fh m))(c:kz w 29 m n a)(g:(Lit.int .i64 id).wf=fm)(e:a (LH id)=fh (hZ d)):
  ik 213 #[ii b,fY id] w (UV (fC #[hZ d,fY 0]) w):=by
 have f:=c.look_ok zi underlying265 (Ew w)<|Dn g;rw[e]at f;clear c e;go_enter func213,ntmps213;go_wp2_with(simp only[f]);go_ret2;exact⟨fX,fX⟩
theorem XW(b m p n:Nat)(a)(id:Int)(c:fq->Prop)(w:fq)(c0:w.c b 0=fh (.func (.func 115) #[ptr p] #[]))(c1:w.c b 1=fh (.map<|fh m))(d:kz w 29 m n a)(g:(Lit.int .i64 id).wf=fm)(f:a (LH id)=fj)
  (FP:ik 115 #[ii p,fY id] w λe w1=>e=qr #[hZ kq,fY 14]/\c w1):
  ik 213 #[ii b,fY id] w λe J=>e=qr #[hZ kq,fY 14]/\c J:=by
 have h:=d.look_ok zi underlying265 (Ew w)<|Dn g;rw[f]at h;clear d f;go_enter func213,ntmps213;go_wp2_with(first|(go_at_call 115;refine FP.via λw1 i=>?_));go_ret2;exact⟨fX,i⟩
theorem hda(b m p n:Nat)(a)(id:Int)(c:fO->fq->Prop)(w:fq)(c0:w.c b 0=fh (.func (.func 115) #[ptr p] #[]))(c1:w.c b 1=fh (.map<|fh m))(g:kz w 29 m n a)(h:(Lit.int .i64 id).wf=fm)(i:a (LH id)=fj)(q:n<maxLen)
  (FP:ik 115 #[ii p,fY id] w λe w1=>∃d:fO,e=qr #[hZ d,fY 0]/\c d w1)
  (r:∀d w1,c d w1->w1.c b 1=fh (.map<|fh m)/\kz w1 29 m n a):
  ik 213 #[ii b,fY id] w λe J=>∃d:fO,e=qr #[hZ d,fY 0]/\∃w1,c d w1/\kz J 29 m (n+1) (Fi a (LH id)<|fh (hZ d))/\w1.grownBy J (fh m)/\J.heap.size=w1.heap.size:=by
 have s:=g.look_ok zi underlying265 (Ew w)<|Dn h;rw[i]at s;clear g i;go_enter func213,ntmps213;go_wp2_with(first|(go_at_call 115;refine FP.mono ?_;rintro e w1 ⟨d,rfl,f⟩;have⟨u,j⟩:=r _ _ f;have⟨v,x,k,l,o⟩:=j.store zi underlying265 q (Dn h) (val:=fA d);have t:fe _:=f;change fe _ at k l o;clear j f));go_ret2;exact⟨d,fX,w1,t,k,l,o⟩
theorem hdb(b m p n:Nat)(a)(id:Int)(c:iD)(N d)(w:fq)(c1:w.c b 1=fh (.map<|fh m))(e:kz w 29 m n a)(h:(Lit.int .i64 id).wf=fm)(f:a (LH id)=fh (fy c N d)):
  ik 217 #[ii b,fY id] w (UV (fC #[fy c N d,fY 0]) w):=by
 have g:=e.look_ok zi underlying269 (CC w)<|Dn h;rw[f]at g;clear e f;go_enter func217,ntmps217;go_wp2_with(simp only[g]);go_ret2;exact⟨fX,fX⟩
theorem XX(b m p n:Nat)(a)(id:Int)(c:fq->Prop)(w:fq)(c0:w.c b 0=fh (.func (.func 117) #[ptr p] #[]))(c1:w.c b 1=fh (.map<|fh m))(d:kz w 29 m n a)(g:(Lit.int .i64 id).wf=fm)(f:a (LH id)=fj)
  (FP:ik 117 #[ii p,fY id] w λe w1=>e=qr #[fy fj 0 0,fY 14]/\c w1):
  ik 217 #[ii b,fY id] w λe J=>e=qr #[fy fj 0 0,fY 14]/\c J:=by
 have h:=d.look_ok zi underlying269 (CC w)<|Dn g;rw[f]at h;clear d f;go_enter func217,ntmps217;go_wp2_with(first|(go_at_call 117;refine FP.via λw1 i=>?_));go_ret2;exact⟨fX,i⟩
theorem hdc(b m p n:Nat)(d)(id:Int)(f:iD->Nat->Nat->fq->Prop)(w:fq)(c0:w.c b 0=fh (.func (.func 117) #[ptr p] #[]))(c1:w.c b 1=fh (.map<|fh m))(h:kz w 29 m n d)(i:(Lit.int .i64 id).wf=fm)(j:d (LH id)=fj)(r:n<maxLen)
  (FP:ik 117 #[ii p,fY id] w λe w1=>∃a N c,e=qr #[fy a N c,fY 0]/\f a N c w1)
  (s:∀a N c w1,f a N c w1->w1.c b 1=fh (.map<|fh m)/\kz w1 29 m n d):
  ik 217 #[ii b,fY id] w λe J=>∃a N c,e=qr #[fy a N c,fY 0]/\∃w1,f a N c w1/\kz J 29 m (n+1) (Fi d (LH id)<|fh (fy a N c))/\w1.grownBy J (fh m)/\J.heap.size=w1.heap.size:=by
 have t:=h.look_ok zi underlying269 (CC w)<|Dn i;rw[j]at t;clear h j;go_enter func217,ntmps217;go_wp2_with(first|(go_at_call 117;refine FP.mono ?_;rintro e w1 ⟨a,N,c,rfl,g⟩;have⟨v,k⟩:=s _ _ _ _ g;have⟨x,y,l,o,q⟩:=k.store zi underlying269 r (Dn i) (val:=fy a N c);have u:fe _:=g;change fe _ at l o q;clear k g));go_ret2;exact⟨a,N,c,fX,w1,u,l,o,q⟩
theorem Bt(a:fJ A id≠0):1<=id/\id<=fv A:=by
 grind [absurd,iJ]
theorem jq.many{T}(a:jq T w s p A got brk I):fv A<=400:=by
 have⟨_,ft,_,⟨b,h,c,d,e,f,i⟩,_⟩:=a;exact i.gQ.many
theorem jq.wf{T}(a:jq T w s p A got brk I)(b:fJ A id≠0):(Lit.int .i64 id).wf=fm:=by
 have c:=Bt b;have d:=a.many
 grind [blt]
theorem Bp.mono{T}{B}(a:Bp T w i B A kF I)(b:I<=jW):Bp T w i B A kF jW:=by
 have⟨c,n,d,e,r⟩:=a;exact⟨c,n,d,ww e b,r⟩
theorem Bq.mono{T}{B}(a:Bq T w i B A kD I)(b:I<=jW):Bq T w i B A kD jW:=by
 have⟨c,n,d,e,f,r⟩:=a;exact⟨c,n,d,e,ww f b,r⟩
theorem CB.mono{T}{B}(a:CB T w i B of I)(b:I<=jW):CB T w i B of jW:=by
 have⟨c,⟨n,d,r⟩,e⟩:=a;exact⟨c,⟨n,ww d b,r⟩,e⟩
theorem gD.mono{T}{B}(a:gD T w i B od I O)(b:I<=jW):gD T w i B od jW O:=by
 have⟨c,⟨n,d,r⟩,e,f,g⟩:=a;exact⟨c,⟨n,ww d b,r⟩,e,f,g⟩
theorem qF.mono{T}{B}{g}(a:qF T w i p B A g I)(b:I<=jW):qF T w i p B A g jW:=by
 have⟨O,c⟩:=a.qo;exact⟨a.tree,a.nP.mono b,a.nQ.mono b,a.uf.mono b,⟨O,c.mono b⟩,a.files,a.held,a.opens,a.ok⟩
def fZ.mono{T}{B}{g}(a:fZ T w s i p B A g I)(b:I<=jW):fZ T w s i p B A g jW:=⟨a.two,a.st.mono b,a.wp.mono b⟩
theorem qF.fs{T M}{B}{g}{fs':b6}(a:qF T w i p B A g I)(m:fI P T M w J)(b:∀k,k≠2->k≠3->¬P (i,k))(c:I<=jW)
  (hF:Bp M J i B A fs'.kF jW)(d:Bq M J i B A fs'.kD jW):qF M J i p B A { g with fs:=fs' } jW:=by
 have⟨O,e⟩:=a.qo;exact⟨a.tree.moves m<|b 1 (by decide) (by decide),hF,d,(a.uf.moves m<|b 4 (by decide) (by decide)).mono c,⟨O,(e.moves m<|b 5 (by decide) (by decide)).mono c⟩,a.files.moves m<|b 6 (by decide) (by decide),a.held,a.opens.moves m (b 0 (by decide)<|by decide)<|b 7 (by decide) (by decide),a.ok⟩
theorem iu(U:2<=i)(k:Nat):¬OL (i,k):=by
 rintro(a|a)
 all_goals grind
def gA (i:Nat)(t:Nat×Nat):Prop:=t.1=1\/t=(i,2)\/t=(i,3)
def gA.mine(a:gA i t):Mine i t:=by
 rcases a with a|a|a
 exact .inl a;rw[a];exact .inr fX;rw[a];exact .inr fX
def yx(a:OL t):gA i t:=by
 rcases a with rfl|rfl
 exact .inl fX;exact .inl fX
theorem WP{T:gC}(a:w.grownBy J (fh b))(h:J.heap.size=w.heap.size)(d:P (T b)):fI P T T w J:=
 ⟨a.os,a.tape,a.output,a.size,λ_ _=>rfl,λk c f=>a.block k c λe=>f (by cases e;exact d),λg k c=>g k<|by omega⟩
section
variable {T:gC}{B:WB}{g:WG}
theorem hdf(a:fZ T w s i p B A g I)(u:I<1099511627776)(v:fJ A id=1):
  ik 213 #[ii B.sF,fY id] w λe J=>
   e=qr #[hZ<|if(g.fs.gO id).2 then bytesOf A id else kq,fY<|if(g.fs.gO id).2 then 0 else 14]/\∃M,fI (gA i) T M w J/\fZ M J s i p B A { g with fs:=(g.fs.gO id).1 } (I+1):=by
 have o:=a.st.wf (id:=id) (by omega);obtain⟨y,n,j,O,f,z,P⟩:=a.wp.nP;have c0:w.c B.sF 0=fh (.func (.func 115) #[ptr p] #[]):=by simp[World.cell?,a.wp.tree.hF]
 have c1:w.c B.sF 1=fh (.map<|fh B.mF):=by simp[World.cell?,a.wp.tree.hF]
 by_cases l:g.fs.kF id=fm;have h:g.fs.gO id=(g.fs,fm):=by unfold b6.gO;rw[lv l]
 rw[h];refine(hcd B.sF B.mF p n j id (bytesOf A id) w c1 f o (by grind)).still ?_;exact⟨fX,T,fI.refl _ _ _,a.mono<|Ha _⟩;have C:j (LH id)=fj:=by rw[z,km l]
 cases D:g.fs.brk with
 |true=>
  have h:g.fs.gO id=({ g.fs with brk:=fo },fo):=by unfold b6.gO;rw[km l,lv D]
  rw[h];refine(XW B.sF B.mF p n j id (λJ=>∃M,fI OL T M w J/\jq M J s p A g.fs.got fo I) w c0 c1 f o C<|(zh a.st u v).mono ?_).mono ?_
  ·rintro e J ⟨G,rfl,M,m,⟨_,rfl,c⟩|⟨H,_⟩⟩
   all_goals grind
  rintro e J ⟨rfl,M,m,c⟩;exact⟨fX,M,m.mono λt b=>yx b,a.two,c.mono<|Ha _,a.wp.fs m (λk _ _=>iu a.two k) (Ha _) ((a.wp.nP.moves m<|iu a.two 2).mono<|Ha _)<|(a.wp.nQ.moves m (iu a.two 3)).mono (Ha _)⟩
 |false=>
  have h:g.fs.gO id=({ g.fs with got:=g.fs.got++[id],kF:=λx=>decide (x=id) ||g.fs.kF x },fm):=by unfold b6.gO;rw[km l,km (by grind)]
  rw[h];refine(hda B.sF B.mF p n j id (λd J=>d=bytesOf A id/\∃M,fI OL T M w J/\jq M J s p A (g.fs.got++[id]) fo (I+1)) w c0 c1 f o C (by unfold maxLen;omega) ((zh a.st u v).mono ?_) ?_).mono ?_
  ·rintro e J ⟨G,rfl,M,m,⟨H,_⟩|⟨_,rfl,c⟩⟩
   all_goals grind
  rintro d w1 ⟨_,M,m,c⟩;have b:=a.wp.tree.moves m<|iu a.two 1;exact⟨by simp[World.cell?,b.hF],(f.moves m y<|iu a.two 2).1⟩;rintro e J ⟨d,rfl,w1,⟨rfl,M,m,c⟩,K,L,N⟩;have E:=(f.moves m y<|iu a.two 2).2;have F:fI (λt=>t=(i,2)) M M w1 J:=WP L N E;have q:fI (λt=>OL t\/t=(i,2)) T M w J:=(m.mono λt b=>.inl b).trans (F.mono λt b=>.inr b);have U:=a.two;refine⟨fX,M,q.mono λt b=>b.elim yx λe=>.inr<|.inl e,a.two,?_,a.wp.fs q (λk Q _=>?_) (Ha _) ?_<|(a.wp.nQ.moves q (by grind [iu])).mono (Ha _)⟩;rw[show({ g.fs with got:=g.fs.got++[id],kF:=λx=>decide (x=id) ||g.fs.kF x }:b6).brk=fo from D];exact c.moves F (λe=>by cases e) (λe=>by cases e)
  ·all_goals grind [iu]
  refine⟨E,n+1,_,by omega,K,λx=>?_,λx r=>?_⟩
  ·by_cases r:x=id
   ·all_goals grind [nG]
   rw[jQ λe=>r (by injection e),z x];simp[r]
  all_goals grind
theorem kvs(a:fZ T w s i p B A g I)(P:I<1099511627776)(h:fJ A id=2):
  ik 217 #[ii B.sD,fY id] w λe J=>
   ∃v,e=qr #[v,fY<|if(g.fs.iw id).2 then 0 else 14]/\∃M,fI (gA i) T M w J/\fZ M J s i p B A { g with fs:=(g.fs.iw id).1 } (I+1)/\
    (if(g.fs.iw id).2 then oT M J (i,3) v (fT A id)else v=fy fj 0 0)/\∀v es k,(k=3\/k=5)->oT T w (i,k) v es->oT M J (i,k) v es:=by
 have H:=a.st.wf (id:=id) (by omega);obtain⟨E,n,F,Q,ao,l,R,K⟩:=a.wp.nQ;have c0:w.c B.sD 0=fh (.func (.func 117) #[ptr p] #[]):=by simp[World.cell?,a.wp.tree.hD]
 have c1:w.c B.sD 1=fh (.map<|fh B.mD):=by simp[World.cell?,a.wp.tree.hD]
 by_cases r:g.fs.kD id=fm
 ·have u:g.fs.iw id=(g.fs,fm):=by unfold b6.iw;rw[lv r]
  rw[u];have y:=(K id r).2;obtain⟨c,N,d,S⟩:∃c N d,Q id=fy c N d:=by
   rcases y.1.2 with⟨e,_⟩|⟨z,ap,_,e,_⟩
   all_goals grind
  refine(hdb B.sD B.mD p n F id c N d w c1 l H (by grind)).still ?_;exact⟨_,fX,T,fI.refl _ _ _,a.mono<|Ha _,by rw[lv fX,<-S];exact y,λ_ _ _ _ a=>a⟩
 have V:F (LH id)=fj:=by rw[R,km r]
 cases W:g.fs.brk with
 |true=>
  have u:g.fs.iw id=({ g.fs with brk:=fo },fo):=by unfold b6.iw;rw[km r,lv W]
  rw[u];refine(XX B.sD B.mD p n F id (λJ=>∃M,fI OL T M w J/\jq M J s p A g.fs.got fo I) w c0 c1 l H V<|(Br a.st P h).mono ?_).mono ?_
  ·rintro e J ⟨ae,v,rfl,S,M,m,⟨_,rfl,o⟩|⟨af,_⟩,_⟩
   all_goals grind
  rintro e J ⟨rfl,M,m,o⟩;exact⟨_,fX,M,m.mono λt j=>yx j,⟨a.two,o.mono<|Ha _,a.wp.fs m (λk _ _=>iu a.two k) (Ha _) ((a.wp.nP.moves m<|iu a.two 2).mono<|Ha _)<|(a.wp.nQ.moves m (iu a.two 3)).mono (Ha _)⟩,fX,λ_ _ k _ q=>q.moves m<|iu a.two k⟩
 |false=>
  have u:g.fs.iw id=({ g.fs with got:=g.fs.got++[id],kD:=λx=>decide (x=id) ||g.fs.kD x },fm):=by unfold b6.iw;rw[km r,km (by grind)]
  rw[u];refine(hdc B.sD B.mD p n F id (λc N d J=>∃b,Value.slice c N d=fy (fh<|ie b 0) (fv<|fT A id) (fv<|fT A id)/\w.heap.size<=b/\J.ownsRow 0 96 3 (fy c N d) (fv<|fT A id) (flat<|fT A id)/\∃M,M b=(0,0)/\fI OL T M w J/\jq M J s p A (g.fs.got++[id]) fo (I+1)) w c0 c1 l H V (by unfold maxLen;omega) ((Br a.st P h).mono ?_) ?_).mono ?_
  ·rintro e J ⟨ae,v,rfl,_,M,m,⟨af,_⟩|⟨_,rfl,o⟩,q⟩
   all_goals grind
  rintro c N d w1 ⟨_,_,_,_,M,_,m,o⟩;have j:=a.wp.tree.moves m<|iu a.two 1;exact⟨by simp[World.cell?,j.hD],(l.moves m E<|iu a.two 3).1⟩;rintro e J ⟨c,N,d,rfl,w1,⟨b,X,aq,y,f,ag,m,o⟩,ah,Y,ai⟩;have ar:=(l.moves m E<|iu a.two 3).2;have U:=a.two;have au:b<w1.heap.size:=gc y (by rw[X];rfl)
  -- the new row is the OM
  have Z:lD (kV f b (i,3)) w1:=λk h=>by rw[xt<|by omega];exact o.fresh k h
  have C:fI OL T (kV f b (i,3)) w w1:=⟨m.os,m.tape,m.output,m.size,λk h=>by rw[xt<|by omega];exact m.tags k h,m.block,λ_=>Z⟩;have aj:jq (kV f b (i,3)) w1 s p A (g.fs.got++[id]) fo (I+1):=o.zg Z λk h=>xt (λe=>by rw[e,ag]at h;cases h) _;have aa:kV f b (i,3) B.mD=(i,3):=(l.moves C E<|iu a.two 3).2;have ab:fI (λt=>t=(i,3)) (kV f b (i,3)) (kV f b (i,3)) w1 J:=WP Y ai aa;have L:fI (λt=>OL t\/t=(i,3)) T (kV f b (i,3)) w J:=(C.mono λt j=>.inl j).trans (ab.mono λt j=>.inr j);obtain⟨es1,av,ak⟩:=(l.moves C E<|iu a.two 3).1.isMap;have O:∀v es k,oT (kV f b (i,3)) w1 (i,k) v es->oT (kV f b (i,3)) J (i,k) v es:=λv es k q=>q.keep (λz D al=>⟨Y.block z al (λe=>by
   have am:z=B.mD:=by injection e
   rw[am]at D;exact rv q.1 ak D.symm),fX⟩)
  have an:oT (kV f b (i,3)) J (i,3) (fy c N d) (fT A id):=O _ _ _ ⟨y,λz D=>by
   rw[X]at D;obtain rfl:b=z:=by simpa [Value.ownBlock]using D
   exact nu _ _ _⟩
  refine⟨_,fX,_,L.mono λt j=>j.elim yx λe=>.inr<|.inr e,⟨a.two,?_,a.wp.fs L (λk _ aw=>?_) (Ha _) ((a.wp.nP.moves L (by grind [iu])).mono<|Ha _) ?_⟩,an,λv es k _ q=>O _ _ _<|q.moves C (iu a.two k)⟩;rw[show({ g.fs with got:=g.fs.got++[id],kD:=λx=>decide (x=id) ||g.fs.kD x }:b6).brk=fo from W];exact aj.moves ab (λe=>by cases e) (λe=>by cases e)
  ·all_goals grind [iu]
  refine⟨aa,n+1,_,λx=>if x=id then fy c N d else Q x,by omega,ah,λx=>?_,λx G=>?_⟩
  ·by_cases G:x=id
   ·all_goals grind [nG]
   rw[jQ λe=>G (by injection e),R x];simp[G]
  by_cases ac:x=id
  ·all_goals grind
  show _/\oT _ _ _ (if x=id then _ else _) _;rw[km ac];have ad:g.fs.kD x=fm:=by simpa [ac]using G
  exact⟨(K x ad).1,O _ _ _<|(K x ad).2.moves C (iu a.two 3)⟩
end
