/- A part of the proof. -/
import Derived.Test.YtlgidcmmgohagaaGreatComM20
set_option linter.all false
namespace Go.Proofs.YtlgidcmmgohagaaGreat
open Go.RowKit Go.Sort Go.Shelf Go.Proofs.Tryz
open Go.Value renaming slice->fy,string->fA,pointer->fB,tuple->fC,agg->fD,bool->fE
open Go.Ending renaming returned->fF
open Option renaming some->fh,none->fj
open Bool renaming true->fm,false->fo
open Go renaming World->fq,Value->fu
open List renaming length->fv,reverse->fx
open Go.RowKit renaming Hid->fe
set_option maxRecDepth 100000
set_option maxHeartbeats 0
variable {s i p S nc dc:Nat}{B:WB}{A a b:List Ob}{fc tu h:jJ}{t u:LT}{E:List fV}{data:fT}{F:Nat->Prop}{w:fq}{na da:ig}{more:iN}{φ:Nat->Nat}
def hls(s:fP)(k:Nat)(w:fq)(a:Lib.indexByte s.data.toList 47=(k:Int))(c:k<s.size)(b:s.size<=maxLen):ik 184 #[hh s,fA ⟨#[47]⟩] w (ut (fC #[hh<|s.extract 0 k,hh<|s.extract (k+1) s.size,fE fm]) w):=by
 have U:=xx s w;rw[a]at U;unfold maxLen at b;have d:IntKind.i64.wrap ((k:Int)+1)=(k:Int)+1:=by rw[Cb]<;>omega
 go_enter func184,ntmps184;go_wp2_with(go_at_call 215;apply U.still)
 go_region
 all_goals
  go_wp2;exact ni (v:=fC #[hh<|s.extract 0 k,hh<|s.extract (k+1) s.size,fE fm]) (by simp[results,results184,go_sem]) fX ⟨fX,il<|mi _ _⟩
theorem lsb(x)(r:fT)(d:∀c∈iQ x,c≠47)(g:(lA (x::r)).size<=maxLen)(w:fq):
  ik 128 #[hh<|lA (x::r),fA ⟨#[47]⟩] w (ut (fC #[hh x,hh<|lA r,fE<|!r.isEmpty]) w):=by
 rcases r with _|⟨y,t⟩
 rw[uH,yq];exact Bl _ _ _ _ w ((JF x w<|vI _ d).mono λe H⟨a,b⟩=>⟨a,by rw[b];exact mi _ _⟩);have a:=pM x (r:=y::t) (by simp);have b:Lib.indexByte (iQ<|lA (x::y::t)) 47=(fv (iQ x):Int):=by rw[a];exact index_first _ _ d
 have j:(lA (x::y::t)).size=fv (iQ x)+1+fv (iQ<|lA (y::t)):=by rw[<-Kd,a,lI,lq];omega
 have f:=hls (lA (x::y::t)) (fv<|iQ x) w b (by omega) g;have h:(lA (x::y::t)).extract 0 (fv<|iQ x)=x:=iy (by rw[sZ,a,List.take_left,Ce]);have i:(lA (x::y::t)).extract (fv (iQ x)+1) (lA (x::y::t)).size=lA (y::t):=iy (by
  rw[sZ,oJ (by grind),a,show iQ x++47::iQ (lA (y::t))=(iQ x++[47])++iQ (lA (y::t)) by simp];exact crc<|by simp)
 rw[h,i]at f;exact Bl _ _ _ _ w f
theorem GH:∀(s:List UInt8),∀x∈se s,∀c∈x,c≠47
 |[]=>by intro x a c b;simp[se]at a;subst a;cases b
 |d::e=>by
  intro x a c b
  have g:=GH e
  rw[se]at a
  split at a
  ·all_goals grind
  rename_i f
  rcases mB.1 a with rfl|a
  ·rcases mB.1 b with rfl|b
   exact f
   rcases hs:se e with _|⟨y,h⟩
   all_goals grind
  all_goals grind [List.mem_of_mem_tail]
def Zt (s:fP):fT:=(se<|iQ s).map λx=>⟨x.toArray⟩
def hlz(s):lA (Zt s)=s:=by
 apply iy;show iY ((Zt s).map iQ)=iQ s;unfold Zt;rw[Ed]
 have:(se<|iQ s).map (iQ∘λx=>(⟨x.toArray⟩:fP))=se (iQ s):=by
  conv=>rhs;rw[<-List.map_id<|se (iQ s)]
  apply KS;intro x _;rfl
 rw[this,wY]
theorem hl1(s):∀x∈Zt s,∀c∈iQ x,c≠47:=by
 intro x a;obtain⟨y,b,rfl⟩:=ja.1 a;exact GH _ y b
theorem uwd(s:fP):Zt s≠[]:=by
 intro a;exact qV _<|List.map_eq_nil_iff.1 a
theorem lss{L}(d:¬Good L):∃k,k<fv L/\k<=5/\(∀a(b:a<fv L),a<k->fN L[a]=fm)/\(k=5\/∃c:k<fv L,fN L[k]=fo):=by
 by_cases e:∀a(b:a<fv L),a<5->fN L[a]=fm;by_cases f:fv L<=5;refine absurd ⟨λx j=>?_,f⟩ d
 grind [rD]
 exact⟨5,by omega,by omega,e,.inl fX⟩;have g:∀n,(∃a,∃b:a<fv L,a<n/\fN L[a]=fo)->∃k,∃c:k<fv L,k<n/\fN L[k]=fo/\∀a(b:a<fv L),a<k->fN L[a]=fm:=by
  grind
 have:∃a,∃b:a<fv L,a<5/\fN L[a]=fo:=by
  grind
 have⟨k,c,l,h,i⟩:=g 5 this;exact⟨k,c,by omega,i,.inr ⟨c,h⟩⟩
theorem Kn{L:fT}(a):(lA<|L.drop a).size<=(lA L).size:=by
 induction a generalizing L with
 |zero=>exact lw _
 |succ a b=>
  cases L with
  |nil=>exact lw _
  |cons x c=>
   rw[KQ];apply wy b;rcases c with _|⟨y,t⟩
   exact zt _
   grind [List.length,pM,lI,lq,Kd]
theorem Zu(s:fP)(hs:s.size<=maxLen)(G:∀l,Good l->s≠lA l)(w:fq):ik 69 #[hh s] w (ut (fC #[ln [],fY 1]) w):=by
 have⟨L,M⟩:=ol<|Zt s;have b:=hlz s;have H:=hl1 s;have N:=uwd s;rw[<-M]at b H N;have P:¬Good L:=λh=>G L h b.symm;have az:(!(s).toList.isEmpty)=fm:=by
  have X:s≠kq:=λe=>G [] Good.nil (by rw[e,yq]);rw[mC];rcases C:iQ s with _|⟨c,r⟩
  exact absurd (iy (show iQ s=iQ kq by rw[C];rfl)) X;rfl
 have⟨k,aA,aB,Q,S⟩:=lss P;have hcut:∀a(b:a<fv L)g,ik 128 #[hh<|lA (L.drop a),fA ⟨#[47]⟩] g (ut (fC #[hh<|L.getD a kq,hh<|lA (L.drop<|a+1),fE<|decide (a+1<fv L)]) g):=by
  intro a f g;have T:L.drop a=L[a]::L.drop (a+1):=KM f;have U:(lA<|L.drop a).size<=maxLen:=by
   have:=Kn (L:=L) a
   rw[b]at this;omega
  rw[T]at U
  have:=lsb L[a] (L.drop<|a+1) (H _<|kN f) U g
  rw[<-T]at this;have Y:(!(L.drop<|a+1).isEmpty)=decide (a+1<fv L):=by
   by_cases h:a+1<fv L;rw[qu h,KM h];rfl;rw[yv h,Wu<|by omega];rfl
  rw[Y]at this;rwa [wK,jH f,sA]
 have I:∀a(b:a<fv L)g,ik 129 #[hh<|L.getD a kq] g (PP (fE<|fN (L.getD a kq)) g):=by
  intro a f g;rw[wK,jH f,sA];apply Ch L[a] g;have Z:=Kn (L:=L) a;rw[b,KM f]at Z;have aC:L[a].size<=(lA (L[a]::L.drop (a+1))).size:=by
   rcases aD:L.drop (a+1)with _|⟨y,t⟩
   rw[uH];exact lw _
   have:=congrArg List.length<|pM L[a] (r:=y::t) (by simp)
   rw[lI,lq,Kd,Kd,Kd]at this;omega
  omega
 have kQ:∀a(b:a<fv L),a<k->fN (L.getD a kq)=fm:=λa b h=>by
  rw[wK,jH b,sA];exact Q a b h
 have V:k<5->fN (L.getD k kq)=fo:=λh=>by
  rcases S with rfl|⟨aa,o⟩
  omega;rw[wK,jH aa,sA];exact o
 have D:=λg=>QR g;unfold ln jn at D;simp only[tQ]at D;have ab:ln []=fD (ml kq kq kq kq kq):=fX;rw[ab];have ac:fe _:=b
 change fe _ at hcut I kQ V
 clear Q S H N P G M b;go_enter func69,ntmps69;go_wp2;have ad:fe (gN ((w.k (ml kq kq kq kq kq) 147).k (ml kq kq kq kq kq) 147) w.heap.size []):=JH w;have ae:fe (gN ((w.k (ml kq kq kq kq kq) 147).k (ml kq kq kq kq kq) 147) (w.heap.size+1) []):=JI w
 go_loopw [5,6,7] (λr m i wr=>∃a:Nat,a<=k/\i=.int .i64 (a:Int)/\m=fE fm/\r=fA (lA<|L.drop a)/\ju w wr/\fe (gN wr w.heap.size [])/\fe (gN wr (w.heap.size+1)<|L.take a)) (λ_ _ i _=>k-(intOf i).toNat)
 case atStart=>exact⟨0,zt _,rfl,rfl,by rw[Ce,ac.o],((mi _ _).alloc (lw _) _).alloc (by simp) _,ad,ae⟩
 case round=>
  obtain⟨a,b,rfl,rfl,rfl,o,E,F⟩:=hrel;have f:a<fv L:=by omega
  have af:w.heap.size+1<wr.heap.size:=F.1;have ag:w.heap.size<wr.heap.size:=E.1;by_cases ah:a<k
  ·have p:a<5:=by omega
   have ai:((a:Int)==5)=fo:=by simp;omega
   have aE:(a:Int)<5:=by omega
   have j:=hcut a f;have n:=I a f;rw[kQ.o a f ah]at n;rw[qu (show a+1<fv L by omega)]at j;generalize C:L.getD a kq=x at j n;have aj:fe _:=C;clear C;go_wp2_with fail;refine Calls.via (j wr) λO d=>?_;have ak:w.heap.size+1<O.heap.size:=np af d.size;have al:=((F.keep d).2 a p);have⟨J,am⟩:=al;generalize (L.take a).getD a kq=an at J;go_wp2_with(go_at_call 129;apply Calls.still<|n _);go_roundw
   case rel=>
    refine⟨a+1,by omega,by go_num,fX,fX,?_,(E.o.keep d).other<|by omega,?_⟩;refine wB ?_ (by simp) _;exact gS o d;rw[<-aj.o];exact(F.o.keep d).set p
   case measure=>simp[intOf];omega
  have ao:a=k:=by omega
  subst ao;by_cases ap:a=5
  ·subst ap
   go_wp2_with(go_at_call 75;refine(D _).via λO d=>?_;have⟨⟨q,u,z,A,B⟩,R⟩:=(E.keep d).five;have aq:=R 0 (by omega);have ar:=R 1 (by omega);have au:=R 2 (by omega);have av:=R 3 (by omega);have aw:=R 4 (by omega);have ak:w.heap.size<O.heap.size:=np ag d.size;clear R;simp only[tQ]at q u z A B);exact ni (v:=fC #[fD<|ml kq kq kq kq kq,fY 1]) (by simp[results,results69,go_sem,q,u,z,A,B]) fX ⟨fX,by
    repeat(refine wB ?_ (by simp) _)
    exact gS o d⟩
  have p:a<5:=by omega
  have ai:((a:Int)==5)=fo:=by simp;omega
  have j:=hcut a f;have n:=I a f;rw[V.o p]at n;generalize L.getD a kq=x at j n;generalize decide (a+1<fv L)=more at j;go_wp2_with fail;refine Calls.via (j wr) λO d=>?_;have⟨J,am⟩:=((F.o.keep d).2 a p);generalize (L.take a).getD a kq=an at J;have W:fe (gN (O.setCell (ii (w.heap.size+1) a)<|hh x) w.heap.size []):=(E.keep d).other (by omega);have ax:ju w (O.setCell (ii (w.heap.size+1) a)<|hh x):=wB (gS o d) (by simp) _;go_wp2_with(first
   |(go_at_call 129;apply Calls.still<|n _)
   |(go_at_call 75;refine(D _).via λay K=>?_;have⟨⟨q,u,z,A,B⟩,R⟩:=(W.keep K).five;have aq:=R 0 (by omega);have ar:=R 1 (by omega);have au:=R 2 (by omega);have av:=R 3 (by omega);have aw:=R 4 (by omega);have aF:w.heap.size<ay.heap.size:=(W.keep K).1;clear R;simp only[tQ]at q u z A B))
  exact ni (v:=fC #[fD<|ml kq kq kq kq kq,fY 1]) (by simp[results,results69,go_sem,q,u,z,A,B]) fX ⟨fX,by
   repeat(refine wB ?_ (by simp) _)
   exact gS ax K⟩
def VT (d:Nat)(N:gF)(w:fq)(a:Int)(Y:Kids)(c:fu):Prop:=(a≠0/\c=fy fj 0 0)\/(a=0/\∃b,c=fy (fh ⟨b,0,fj⟩) (fv Y) (fv Y)/\xL w b (Y.map lL) (fv Y)/\N b=(0,0)/\d<=b)
theorem vcs{N}{w}{a}{I}{t}(f:jy N w s i p B A a I t)(V:I+1000<1099511627776){b:fT}(F:Good (fx b)):
  ik 68 #[ie B.wb,hh<|lA (fx b)] w λe H=>∃j,e=pD #[j,fY (pw A t a.fs b).2.1]/\∃M,fI (Mine i) N M w H/\jy M H s i p B A { a with fs:=(pw A t a.fs b).1 } (I+400) t/\VT w.heap.size M H (pw A t a.fs b).2.1 (pw A t a.fs b).2.2 j:=by
 have⟨L,c0,_⟩:=f.ws;have W:fv b<=5:=by have:=F.len;simpa using this
 have l:=λn(o:ju w n)=>uJ (s:=s) (i:=i) (p:=p) (B:=B) (A:=A) b N n a I (f.inv.below o) (by omega) F;have G:fv ((pw A t a.fs b).2.2.map lL)<=16:=by
  have:=(f.inv.gh a.fs b).len
  rwa [nI f.inv.st.sound f.flat f.ok a.fs b]at this
 simp only[nI f.inv.st.sound f.flat f.ok a.fs b]at l;obtain⟨h,q,Y,O⟩:∃h q Y,pw A t a.fs b=(h,q,Y):=⟨_,_,_,fX⟩;rw[O]at G l |-;simp only at G l |-;refine(hkp B.wb B.bt (fx b) F (λj e H=>e=q/\∃M,fI (Mine i) N M w H/\jy M H s i p B A { a with fs:=h } (I+400) t/\VT w.heap.size M H q Y j) w L c0 λn o=>?_).mono ?_;have J:∀{d H:fq}{M:gF},fI (gC i) N M w d->fZ M d s i p B A { a with fs:=h } (I+fv b+1)->ju d H->fI (Mine i) N M w H/\jy M H s i p B A { a with fs:=h } (I+400) t:=by
  intro d H M m g r;exact⟨(m.mono λt P=>gC.mine P).trans<|fI.fJ r,(g.below r).mono<|by omega,f.flat,f.ok,f.fl⟩
 by_cases K:q=0;subst K;by_cases X:0<fv Y;have x:=TN B.bt _ _ _ _ _ (Y.map lL) (λd=>∃M,fI (gC i) N M w d/\fZ M d s i p B A { a with fs:=h } (I+fv b+1)) n G λy v=>(l y (gS o v)).mono ?_;apply x.mono;rintro e H ⟨d,⟨M,m,g⟩,rfl,r,D⟩;rw[oI]at D |-;have⟨z,C⟩:=J m g r;exact⟨_,_,fX,fX,M,z,C,.inr ⟨fX,_,fX,D,g.st.fresh _<|lw _,m.size⟩⟩;rintro e H ⟨j,rfl,M,m,g,E⟩;obtain⟨Q,R,rfl,S,_⟩:=E.at_ (k:=0) (by grind);refine⟨Q,R,fX,⟨M,(mr (gS o v) m),g⟩,S,λT u U=>?_⟩
 have:=ks E.1 T u U
 grind
 obtain rfl:Y=[]:=DY.1 (by omega);have x:=Zh B.bt _ _ _ _ _ (λd=>∃M,fI (gC i) N M w d/\fZ M d s i p B A { a with fs:=h } (I+fv b+1)) n λy v=>(l y (gS o v)).mono ?_;apply x.mono;rintro e H ⟨d,⟨M,m,g⟩,rfl,r,D⟩;have⟨z,C⟩:=J m g r;exact⟨_,_,fX,fX,M,z,C,.inr ⟨fX,_,fX,D,g.st.fresh _<|lw _,m.size⟩⟩;rintro e H ⟨j,rfl,M,m,g,E⟩;obtain⟨Z,c,rfl⟩:=E.len
 grind [mr,gS]
 have x:=Zg B.bt _ _ _ _ _ q K (λd=>∃M,fI (gC i) N M w d/\fZ M d s i p B A { a with fs:=h } (I+fv b+1)) n λy v=>(l y (gS o v)).mono ?_;apply x.mono;rintro e H ⟨⟨M,m,g⟩,rfl⟩;have⟨z,C⟩:=J m g<|mi _ _;exact⟨_,_,fX,fX,M,z,C,.inl ⟨K,fX⟩⟩
 grind [mr,gS]
 grind
def xQ (S:fP):Prop:=∀a,Calls prog 69 #[fA S] a λe H=>e=fF (fC #[fD #[fA ⟨#[]⟩,fA ⟨#[]⟩,fA ⟨#[]⟩,fA ⟨#[]⟩,fA ⟨#[]⟩],.int .i64 1])/\Below a.heap.size a H
theorem Zv(b)(S)(w:fq)(c:xQ S):ik 31 #[ie b,hh S] w (ut (fY 1) w):=by
 go_enter func31,ntmps31;go_wp2_with(go_at_call 69;refine Calls.via (c _) λO a=>?_);go_ret
 first|exact⟨fX,a⟩|exact⟨fX,a.alloc a.size _⟩
theorem Ua(b)(S)(w:fq)(c:xQ S):ik 32 #[ie b,hh S] w (ut (fY 1) w):=by
 go_enter func32,ntmps32;go_wp2_with(go_at_call 69;refine Calls.via (c _) λO a=>?_);go_ret
 first|exact⟨fX,a⟩|exact⟨fX,a.alloc a.size _⟩
theorem hma(b)(S)(w:fq)(c:xQ S):ik 68 #[ie b,hh S] w (ut (fC #[fy fj 0 0,fY 1]) w):=by
 go_enter func68,ntmps68;go_wp2_with(go_at_call 69;refine Calls.via (c _) λO a=>?_);go_ret2
 first|exact⟨fX,a⟩|exact⟨fX,a.alloc a.size _⟩
theorem Qf(b)(S c)(w:fq)(d:xQ S):ik 33 #[ie b,hh S,hh c] w (ut (fY 1) w):=by
 go_enter func33,ntmps33;go_wp2_with(go_at_call 69;refine Calls.via (d _) λO a=>?_);go_ret
 first|exact⟨fX,a⟩|exact⟨fX,a.alloc a.size _⟩
theorem Qg(g)(l)(c:Good l)(d)(w:fq)(h:xQ d):ik 33 #[ie g,hh<|lA l,hh d] w (ut (fY 1) w):=by
 have a:=λi=>kj l c i;obtain⟨j,k,m,n,Z,e⟩:=sf l;unfold ln at a;simp only[e]at a;clear e c;generalize lA l=o at a |-;go_enter func33,ntmps33;go_wp2_with fail;refine Calls.via (a _) λO b=>?_;go_wp2_with fail;refine Calls.via (h _) λp f=>?_;go_wp2;go_ret;exact⟨fX,WO (gS (b.alloc b.size _) f) (wy (wy b.size<|by simp) f.size) _⟩
theorem hmb(i)(S)(w:fq)(j:xQ S):ik 67 #[ie i,hh S] w (ut (fC #[fD #[fY 0,fY 0],fY 1]) w):=by
 have e:ju w (w.k #[fY 0,fY 0] 141):=(mi _ _).alloc (lw _) _;have f:lu (w.k #[fY 0,fY 0] 141) w.heap.size:=nX _ _
 change fe _ at e f
 go_enter func67,ntmps67;go_wp2_with fail;refine Calls.via (j _) λO g=>?_
 have b:lu O w.heap.size:=(g.block w.heap.size<|by simp).trans f;obtain⟨n,_⟩:=b.cells;have h:ju w O:=e.trans<|g.mono (by simp);have c:((O.setCell (ii w.heap.size 0)<|fY 0).setCell (ii w.heap.size 1)<|fY 0).heap[w.heap.size]?=fh (.cells #[fY 0,fY 0] 141 (0,0)):=by
  unfold lu at b;simp[World.setCell,BV,b]
 have d:∀a,(((O.setCell (ii w.heap.size 0)<|fY 0).setCell (ii w.heap.size 1)<|fY 0).alloc a).heap[w.heap.size]?=fh (.cells #[fY 0,fY 0] 141 (0,0)):=λa=>(sG _ _ _ (lW.1 c).1).trans c;have k:∀a,(((O.setCell (ii w.heap.size 0)<|fY 0).setCell (ii w.heap.size 1)<|fY 0).alloc a).c w.heap.size 0=fh (fY 0):=λa=>by simp[World.cell?,d a]
 have l:∀a,(((O.setCell (ii w.heap.size 0)<|fY 0).setCell (ii w.heap.size 1)<|fY 0).alloc a).c w.heap.size 1=fh (fY 0):=λa=>by simp[World.cell?,d a]
 have m:∀a,ju w (((O.setCell (ii w.heap.size 0)<|fY 0).setCell (ii w.heap.size 1)<|fY 0).alloc a):=λa=>((h.setCell (lw _) _).setCell (lw _) _).alloc (by simpa using h.size) _;clear b c d;go_wp2;exact ni (v:=fC #[fD #[fY 0,fY 0],fY 1]) (by simp[results,results67,go_sem,k,l]) fX ⟨fX,m _⟩
theorem iH{l}(a:Good l):jz (fG l)=(l,fm):=by
 rw[Ae a.val,qu a.len]
def vec{p x:fT}(b:xc a fc t p=fj)(d:p <+: x):xc a fc t x=fj:=by
 obtain⟨f,rfl⟩:=d;unfold xc at b |-;rw[lx];rcases e:t.at a p with _|c
 rfl;rw[e]at b;cases b
theorem CQ(l:fT)(x:fP):(l++[x]).take (fv (l++[x])-1)=l:=Ec<|by simp
theorem Zw{l:fT}{x:fP}(a:Good (l++[x])):ww E (fG<|l++[x])=if xq E (l++[x])≠0 then(E,xq E<|l++[x])else if nz E (fG<|l++[x])≠0 then(E,6)else if 16<=fv (fU E<|fG l) then(E,11) else(E++[(fG<|l++[x],2,0)],0):=by
 grind [ww,iH,CQ]
theorem Ub{l}(a:Good l)(b:l≠[]):rb E (fG l)=if WF E l≠0 then(E,WF E l)else if 0<fv (fU E<|fG l) then(E,8) else(vx E<|fG l,0):=by
 grind [rb,iH]
theorem Qh(f:Reads a fc t E data)(hs:gf E data)(o:Sound a)(p:fM a 5 t){n:fP}{b:fT}(q:Good (fx b++[n])):
  (jE a t oY (n::b)).2.1=(ww E<|fG (fx b++[n])).2/\Reads a fc (jE a t oY (n::b)).2.2 (ww E<|fG (fx b++[n])).1 data/\gf (ww E<|fG (fx b++[n])).1 data:=by
 have i:=q.val;have y:(jE a t oY (n::b)).2.1=(ww E<|fG (fx b++[n])).2:=by
  unfold jE;rw[Zw q,<-Mh f hs i.left n];simp only[mK];by_cases k:(jl a t b).1≠0
  grind
  rw[km k,km k];have⟨d,r,s⟩:=uR<|oL.1 k;have g:=mX (fc:=fc) r s n [];rw[<-uU f hs o p r s];cases u:jp (jl a t b).2 n with
  |some c=>
   rw[u,wd,px]at g;rw[lv<|show(fh c:Option LT).isSome=fm from fX,lv (show nz E (fG<|fx b++[n])≠0 from λe=>by rw[show fx b++[n]=fx b++n::[]from fX]at e;rw[(f.PZ hs i).1 e]at g;cases g)]
  |none=>
   rw[u]at g;rw[km (show ¬(fj:Option LT).isSome=fm by simp),km (show ¬nz E (fG<|fx b++[n])≠0 from λe=>e<|(f.PZ hs i).2 g)];split<;>rfl
 refine⟨y,?_⟩;have⟨c1,c2,c3⟩:=TQ (fc:=fc) o p n b (er:=(jE a t oY (n::b)).2.1) (t':=(jE a t oY (n::b)).2.2) fX;rcases PY hs (fG<|fx b++[n]) with⟨z,v⟩|⟨z,l,x,v,A,D,B,C,w⟩
 grind
 have e:=sq A i v.symm;rw[e]at B w;obtain⟨d1,d2⟩:=c3 (by omega);refine⟨λh m=>?_,C⟩;rw[d2 h,w h m];by_cases j:h=fx b++[n];rw[lv j,lv j];rfl;rw[km j,km j];split
 rename_i uq
 have:=vec d1 uq
 rw[f h m]at this
 grind
 exact f h m
theorem zu(d:Reads a fc t E data)(hs:gf E data){b}(c:fL b)(e:xc a fc t b≠fh .dir):fU E (fG b)=[]:=by
 rcases U:fU E (fG b)with _|⟨y,m⟩
 rfl;exfalso;obtain⟨x,f,⟨g,h,i⟩,_⟩:=(yG hs.jG c).1 (show y∈fU E (fG b) by rw[U];exact oK ..);have j:fL (b++[x]):=c.append (λz k=>by rw[oa.1 k];exact f);obtain⟨n,l⟩:=hs.up _ _ j<|(rz (by simp)).2 ⟨g,h,i⟩;apply e;rw[d b c,l];rfl
theorem Ko(i:Reads a fc t E data)(hs:gf E data)(e:Sound a)(f:fM a 5 t){b}{c:LT}(g:t.at a b=fh c):(yr a oY c).2=if 0<fv (fU E<|fG b) then 8 else 0:=by
 have j:=(tA e b f g).2.2;unfold yr;simp only[rU];by_cases d:c.kind=2;have⟨Y,h⟩:=rq (a:=a) d;rw[km (show ¬c.kind=1 by rw[d];decide),vP h,<-uU i hs e f g h]
 grind
 have k:c.kind=1:=by cases c<;>first|rfl|exact absurd fX d
 grind [xc,oV,pV,tH,pP,zu]
theorem Kp(i:Reads a fc t E data)(hs:gf E data)(j:Sound a)(k:fM a 5 t){n:fP}{b:fT}(d:Good (fx b++[n])):
  (QQ a t oY (n::b)).2.1=(rb E<|fG (fx b++[n])).2/\Reads a fc (QQ a t oY (n::b)).2.2 (rb E<|fG (fx b++[n])).1 data/\gf (rb E<|fG (fx b++[n])).1 data:=by
 have m:=d.val;have o:(QQ a t oY (n::b)).2.1=(rb E<|fG (fx b++[n])).2:=by
  unfold QQ;rw[Ub d<|by simp]
  grind [mJ,rA,kz,pd,vQ,Ko,fU,fG]
 refine⟨o,?_⟩;have⟨c1,c2,c3⟩:=PJ (fc:=fc) j k n b (er:=(QQ a t oY (n::b)).2.1) (t':=(QQ a t oY (n::b)).2.2) fX;rcases Mf hs (fG<|fx b++[n]) with⟨p,f⟩|⟨p,l,x,f,q,u,r,_,s,g⟩
 grind
 have e:=sq q m f.symm;rw[e]at r g;obtain⟨d1,d2⟩:=c3 (by omega);refine⟨λc h=>?_,s⟩;rw[d2 c,g c h];split;rfl;exact i c h
theorem hme(e:Reads a fc t E data)(hs:gf E data){f:fT}{n:fP}(g:fL (f++[n])){d:LT}{Y:Kids}(j:t.at a f=fh d)(k:kids a d=fh Y):
  (jp Y n=fj/\nz E (fG<|f++[n])=0)\/∃c,jp Y n=fh c/\t.at a (f++[n])=fh c/\nz E (fG<|f++[n])=c.kind:=by
 have b:=mX (fc:=fc) j k n [];rcases h:jp Y n with _|c
 rw[h]at b;exact .inl ⟨fX,(e.PZ hs g).2 b⟩;rw[h,wd,px]at b;refine .inr ⟨c,fX,?_,?_⟩
 grind [lx,wd,lh,oX]
 cases c with
 |file i=>exact(e.Kg hs g).2 ⟨_,b⟩
 |held l=>exact(e.Kg hs g).2 ⟨_,b⟩
 |dir i=>exact(e.tE hs g).2 b
 |own m=>exact(e.tE hs g).2 b
theorem hml(r:Reads a fc t E data)(hs:gf E data)(g:Exact a)(s:fM a 5 t){F}{c:LT}(h:t.at a F=fh c)(i:F≠[]){m:Nat}(O:m<=5):
  (E.any<|iA (fG F) (fv F) m)=fm↔5<(m:Int)+kQ a 5 c:=by
 have⟨u,b,hF⟩:=tA g.sound F s h;have B:kQ a 5 c=kQ a (5-fv F) c:=Aa _ _ c (by omega) b;have v:=lrk (fc:=fc) g (5-fv F) c b<|5-m;rw[<-B]at v;have C:5<(m:Int)+kQ a 5 c↔¬kQ a 5 c<=((5-m:Nat):Int):=by omega
 rw[C,v];constructor;intro D G;have⟨e,d,j⟩:=hLO.1 D;unfold iA at j;simp only[EH,Hw]at j;have⟨w,y⟩:=j;have⟨l,H,k,P,z⟩:=hs.jG e d;rw[z]at w y;obtain⟨n,Q,rfl⟩:=(nU k hF i).1 w;rw[ru k,lI]at y;have o:gm E (F++n)≠fj:=(rz H).2 ⟨e,d,z⟩;have I:xc a fc c n≠fj:=λJ=>o<|(r.empty k).2 (by rw[Cu h];exact J)
 have:=G n I
 omega;intro K;have L:∃x,xc a fc c x≠fj/\¬fv x<=5-m:=by
  exact Classical.byContradiction λb=>K λx p=>Classical.byContradiction λu=>b ⟨x,p,u⟩
 have⟨x,p,M⟩:=L;have f:xc a fc t (F++x)≠fj:=by rw[Cu h];exact p
 have q:fL (F++x):=by
  unfold xc at f;rcases A:t.at a (F++x)with _|e
  rw[A]at f;exact absurd fX f;exact(tA g.sound _ s A).2.2
 have o:gm E (F++x)≠fj:=λe=>f<|(r.empty q).1 e;have⟨e,d,N⟩:=(rz (by simp[i])).1 o;refine hLO.2 ⟨e,d,?_⟩;unfold iA;rw[N,ru q,lI];simp only[EH,Hw];refine⟨(nU q hF i).2 ⟨x,?_,fX⟩,by omega⟩;rintro rfl;simp at M
theorem Zx{F a}(hF:fL F)(c:fL a)(d:F≠[]):AC (fG a) (fG F)=fm↔F <+: a/\F≠a:=by
 rw[nU c hF d];constructor;rintro⟨b,f,rfl⟩;exact⟨qz _ _,λe=>f (by simpa using e.symm)⟩;rintro⟨⟨b,rfl⟩,g⟩;exact⟨b,λe=>g (by rw[e];simp),fX⟩
def Uc{F a:fT}{y:fP}(hF:Good F)(b:Good (a++[y]))(c:F≠[]):xj E (fG F) (fG<|a++[y]) =
  if WF E F≠0 then(E,WF E F)
  else if AC (fG<|a++[y]) (fG F)=fm then(E,9)
  else if xq E (a++[y])≠0 then(E,xq E<|a++[y])
  else if((fG F).toList==(fG<|a++[y]).toList)=fm then(E,0)
  else if nz E (fG<|a++[y])=2/\nz E (fG F)=1 then(E,7)
  else if nz E (fG<|a++[y])=1/\nz E (fG F)=2 then(E,5)
  else if nz E (fG<|a++[y])=2/\0<fv (fU E<|fG (a++[y])) then(E,8)
  else if nz E (fG<|a++[y])=0/\16<=fv (fU E<|fG a)/\wn (fG F) (fG a)=fo then(E,11)
  else if(E.any<|iA (fG F) (fv F) (fv<|a++[y]))=fm then(E,11)
  else((vx E<|fG (a++[y])).map<|pm (fG F) (fG<|a++[y]),0):=by
 unfold xj;rw[iH hF,iH b];simp only;rw[km<|by simp,km (by simpa using c),CQ]
theorem Kq(g:Reads a fc t E data)(hs:gf E data)(S:Exact a)(w:fM a 5 t){n m:fP}{f b:fT}(T:Good (fx f++[n]))(K:Good (fx b++[m])):
  (NE a t oY (n::f) (m::b)).2.1=(xj E (fG<|fx f++[n])<|fG (fx b++[m])).2/\Reads a fc (NE a t oY (n::f) (m::b)).2.2 (xj E (fG<|fx f++[n])<|fG (fx b++[m])).1 data/\gf (xj E (fG<|fx f++[n])<|fG (fx b++[m])).1 data:=by
 have L:=S.sound;have h:=T.val;have j:=K.val;have A:n::f=m::b↔fx f++[n]=fx b++[m]:=by
  rw[<-kz,<-kz];exact⟨λe=>by rw[e],λe=>cmd.1 e⟩
 have ac:((fG<|fx f++[n]).toList==(fG<|fx b++[m]).toList)=decide (n::f=m::b):=by
  rw[PV h j];by_cases e:n::f=m::b;rw[qu e,qu<|A.1 e];rw[yv e,yv λg=>e<|A.2 g]
 have M:(NE a t oY (n::f) (m::b)).2.1=(xj E (fG<|fx f++[n])<|fG (fx b++[m])).2:=by
  unfold NE;rw[Uc T K<|by simp,ac];simp only[mJ,mK,kz];have U:=rA g hs (n::f) (by rw[kz];exact h);rw[kz]at U;rw[<-U,<-Mh g hs j.left m];by_cases s:(pd a t (n::f)).1≠0;rw[lv s,lv s];rw[km s,km s];have N:=Zx h j (by simp);by_cases u:fx f++[n] <+: fx b++[m]/\n::f≠m::b;rw[lv u,lv (N.2 ⟨u.1,λe=>u.2<|A.2 e⟩)];rw[km u,km λe=>u ⟨(N.1 e).1,λad=>(N.1 e).2<|A.1 ad⟩];by_cases p:(jl a t b).1≠0;rw[lv<|.inl p,lv p];rw[km p];by_cases B:n::f=m::b;rw[lv<|.inr B,lv<|qu B];exact oL.1 p;rw[km (show ¬((jl a t b).1≠0\/n::f=m::b)from λe=>e.elim p B),km (show ¬decide (n::f=m::b)=fm from λe=>B<|BZ e)];have C:=vQ<|oL.1 s;rw[kz]at C;obtain⟨c,ae⟩:=ol<|(pd a t (n::f)).2;rw[<-ae]at C |-;have⟨d,V,O⟩:=uR<|oL.1 p;obtain⟨Y,af⟩:=ol<|(jl a t b).2;rw[<-af]at O |-;have ag:nz E (fG<|fx f++[n])=c.kind:=by
   have q:xc a fc t (fx f++[n])=fh (nd a fc c):=by unfold xc;rw[C];rfl
   cases c with
   |file i=>exact(g.Kg hs h).2 ⟨_,q⟩
   |held au=>exact(g.Kg hs h).2 ⟨_,q⟩
   |dir i=>exact(g.tE hs h).2 q
   |own av=>exact(g.tE hs h).2 q
  have P:=hml g hs S w C (by simp) (m:=fv<|fx b++[m]) K.len;have ah:((fv (fx b++[m]):Nat):Int)=((fv b+1:Nat):Int):=by simp
  rw[ah]at P;have ai:wn (fG<|fx f++[n]) (fG<|fx b)=decide (f=b):=by
   by_cases e:f=b;rw[qu e,(kU h j.left).2 ⟨n,by rw[e]⟩];rw[yv e];cases aj:wn (fG<|fx f++[n]) (fG<|fx b) with
   |false=>rfl
   |true=>
    have⟨x,o⟩:=(kU h j.left).1 aj
    have:=seg o<|by simp
    exact absurd (cmd.1 this) e
  have ak:(mA a oY (decide (f=b)) Y m c).2=if nz E (fG<|fx b++[m])=2/\c.kind=1 then 7 else if nz E (fG<|fx b++[m])=1/\c.kind=2 then 5 else if nz E (fG<|fx b++[m])=2/\0<fv (fU E<|fG (fx b++[m])) then 8 else if nz E (fG<|fx b++[m])=0/\16<=fv Y/\decide (f=b)=fo then 11 else 0:=by
   unfold mA;rcases hme g hs j V O with⟨v,D⟩|⟨e,v,al,D⟩
   rw[v,D];simp only;rw[km (show ¬((0:Int)=2/\c.kind=1)from λx=>absurd x.1<|by decide),km (show ¬((0:Int)=1/\c.kind=2)from λx=>absurd x.1<|by decide),km (show ¬((0:Int)=2/\0<fv (fU E<|fG (fx b++[m])))from λx=>absurd x.1<|by decide)];by_cases G:16<=fv Y/\decide (f=b)=fo;rw[lv G,lv ⟨trivial,G⟩];rw[km G,km λx=>G x.2];rw[v,D];simp only;unfold lD;by_cases H:e.kind=2/\c.kind=1;rw[lv H,lv H];rw[km H,km H];by_cases I:e.kind=1/\c.kind=2;rw[lv I,lv I];rw[km I,km I,Ko g hs L w al];have W:e.kind=1\/e.kind=2:=by cases e<;>first|exact .inl rfl|exact .inr fX
   have am:¬(e.kind=0/\16<=fv Y/\decide (f=b)=fo):=λx=>by rcases W with k|k<;>(rw[k]at x;exact absurd x.1<|by decide)
   rw[km am];by_cases r:0<fv (fU E<|fG (fx b++[m]));have k:e.kind=2:=by
    refine W.resolve_left λk=>?_;have q:xc a fc t (fx b++[m])≠fh .dir:=λx=>by
     have:=(g.tE hs j).2 x
     rw[D,k]at this;cases this
    rw[zu g hs j q]at r;simp at r
   rw[lv r,lv ⟨k,r⟩];rw[km r,km λx=>r x.2]
  rw[ag,ai,<-uU g hs L w V O,ak];by_cases c1:nz E (fG<|fx b++[m])=2/\c.kind=1;rw[lv c1,lv c1];rfl;rw[km c1,km c1];by_cases c2:nz E (fG<|fx b++[m])=1/\c.kind=2;rw[lv c2,lv c2];rfl;rw[km c2,km c2];by_cases c3:nz E (fG<|fx b++[m])=2/\0<fv (fU E<|fG (fx b++[m]));rw[lv c3,lv c3];rfl;rw[km c3,km c3];by_cases c4:nz E (fG<|fx b++[m])=0/\16<=fv Y/\decide (f=b)=fo;rw[lv c4,lv c4];rfl;rw[km c4,km c4,km (show ¬(0:Int)≠0 by decide)];by_cases J:5<((fv b+1:Nat):Int)+kQ a 5 c;rw[lv J,lv<|P.2 J];rw[km J,km λe=>J<|P.1 e]
 refine⟨M,?_⟩;have⟨c1,c2,c3⟩:=PK (fc:=fc) L w n m f b (er:=(NE a t oY (n::f) (m::b)).2.1) (t':=(NE a t oY (n::f) (m::b)).2.2) fX;rcases Mg hs (fG<|fx f++[n]) (fG<|fx b++[m]) with⟨Q,l⟩|⟨Q,F,aw,y,l,an,ax,ao,ay,ap,az,aA,X,aB,aq,Z⟩
 rw[Q];refine⟨?_,hs⟩;by_cases R:(NE a t oY (n::f) (m::b)).2.1≠0;rw[c2 R];exact g;have⟨_,_,d3⟩:=c3<|oL.1 R;have ar:fG (fx f++[n])=fG (fx b++[m]):=by
  rcases l with l|l
  rw[<-M]at l;exact absurd l R;exact l
 have:=sq h j ar
 intro x o;rw[d3 x,lv this];exact g x o;have aa:=sq ao h l.symm;have ab:=sq ap j an.symm;rw[aa,ab]at Z;rw[aa,ab]at X;have⟨_,_,d3⟩:=c3 (by rw[M];exact Q);refine⟨λx o=>?_,aq⟩;rw[d3 x,Z x o,km λe=>X (by rw[e];exact sM _)];split
 rename_i v
 obtain⟨z,rfl⟩:=v;rw[yT];exact g _<|h.append o.right;split;rfl;exact g x o
theorem Kr(E)(data){a:fT}(f:a≠[]):oA E data (fG a)=match gm E a with
  |some (k,g)=>if k=1 then(1,(((data[g.toNat]?).getD kq).size:Int)) else(2,(fv (fU E<|fG a):Int))
  |none=>(2,(fv (fU E<|fG a):Int)):=by
 have b:=ry E<|fG a;rw[<-ng f]at b;unfold oA;cases d:Pl E (fG a) with
 |none=>
  rw[d]at b;rw[<-b];rfl
 |some i=>
  rw[d,wd]at b;rcases c:E[i]? with _|e
  exfalso
  have:=(yQ.1 d).1
  rw[jH this]at c;cases c;rw[c,oV]at b;rw[<-b];simp only[c,oV,sA,wK]
theorem hmm{l}(a:Good l):kX E data (fG l)=if WF E l≠0 then((0,0),WF E l) else(oA E data<|fG l,0):=by
 grind [kX,iH]
theorem hmn{l}(a:Good l):iz E (fG l)=if WF E l≠0 then([],WF E l)else if nz E (fG l)≠2 then([],5) else(WP E<|fG l,0):=by
 grind [iz,iH]
theorem lub(fl)(h:Reads a (gz a fl) t E data)(hs:gf E data)(r:Sound a)(s:fM a 5 t)(y:t.kind=2){d:fT}(u:Good (fx d)):
  (lQ a fl t oY d).2.1=(kX E data<|fG (fx d)).2/\(lQ a fl t oY d).2.2=(kX E data<|fG (fx d)).1:=by
 have n:=u.val;have z:=rA h hs d n;unfold lQ;rw[hmm u,<-z];simp only[mJ];by_cases o:(pd a t d).1≠0
 grind
 rw[km o,km o];have f:=vQ<|oL.1 o;obtain⟨c,A⟩:∃c,c=(pd a t d).2:=⟨_,fX⟩;rw[<-A]at f |-;have j:xc a (gz a fl) t (fx d)=fh (nd a (gz a fl) c):=by unfold xc;rw[f];rfl
 have v:c.kind=2->(oA E data (fG<|fx d))=(2,(fv (fU E<|fG (fx d)):Int)):=by
  intro B;have C:xc a (gz a fl) t (fx d)=fh .dir:=by
   rw[j];cases c<;>first|rfl|cases B
  by_cases k:fx d=[];rw[k];unfold oA;cases D:Pl E (fG []) with
  |none=>rfl
  |some i=>
   exfalso;obtain⟨U,m,_⟩:=yQ.1 D;obtain⟨l,F,G,_,H⟩:=hs.jG _<|kN U;simp only[Hw]at m;rw[H]at m
   have:fG l=fG []:=bytes_inj (by grind [Au])
   exact F<|sq G (λx I=>by cases I) this
  rw[Kr E data k];rw[h _ n]at C
  grind [gm,pV,Iz,decide]
 have w:∀b,nd a (gz a fl) c=.file b->oA E data (fG<|fx d)=(1,(b.size:Int)):=by
  intro b p;have k:fx d≠[]:=by
   intro e;rw[e,oX]at f;have m:=rF f;rw[<-m]at p;cases t<;>first|(cases p;done)|(cases y;done)
  rw[Kr E data k];rw[p,h _ n]at j;cases J:gm E (fx d) with
  |none=>rw[J]at j;cases j
  |some x=>
   grind [pV,Iz,tG,absurd]
 cases c with
 |file id=>
  simp only[iZ,AX,dat];rw[w _ fX];exact⟨fX,fX⟩
 |held g=>
  rw[w _ fX];have K:(Hn a fl oY g).2=(0,gz a fl g):=by
   grind [Hn,gz,AX]
  have L:(iZ a fl oY<|.held g).2=(0,((gz a fl g).size:Int)):=by
   show((Hn a fl oY g).2.1,((Hn a fl oY g).2.2.size:Int))=_;rw[K]
  rw[L];exact⟨fX,fX⟩
 |dir id=>
  have q:=uU h hs r s f<|show kids a (.dir id)=fh _ from fX;rw[v fX];simp only[iZ,rU,jB,q];exact⟨fX,fX⟩
 |own M=>
  have q:=uU h hs r s f<|show kids a (.own M)=fh _ from fX;rw[v fX];simp only[iZ,rU,jB,q];exact⟨fX,fX⟩
theorem lvl(h:Reads a fc t E data)(hs:gf E data)(n:Sound a)(o:fM a 5 t){b:fT}(l:Good (fx b)):
  (jl a t b).1=(iz E<|fG (fx b)).2/\(jl a t b).2.map (·.1)=(iz E<|fG (fx b)).1:=by
 have i:=l.val;rw[hmn l,<-(rA h hs b i)];unfold jl;simp only;by_cases g:(pd a t b).1≠0;rw[lv g,lv g];exact⟨fX,fX⟩;rw[km g,km g];have j:=vQ<|oL.1 g;have⟨c,p⟩:=ol<|(pd a t b).2;rw[<-p]at j |-;have m:xc a fc t (fx b)=fh (nd a fc c):=by unfold xc;rw[j];rfl
 rcases f:kids a c with _|Y
 rw[Ac f,lv λk=>?_];exact⟨fX,fX⟩
 have:=(h.tE hs i).1 k
 rw[m,pV]at this;have⟨Y,e⟩:=tH this;rw[f]at e;cases e;rw[vP f,km (λk=>k ((h.tE hs i).2 (by
  rw[m];cases q:nd a fc c with
  |dir=>rfl
  |file d=>rw[qP q]at f;cases f)))]
 exact⟨fX,CP h hs n o j f⟩
theorem Qi(t)(l m)(s:Good l)(u:Good m)(z:l=[]\/m=[])(w:fq):
  ik 72 #[ie t,fD<|jn l,fD<|jn m] w (ut (fY 9) w):=by
 have f:=λa=>QR a;have c:∀a,(Op.equalIn 10000 147 (ln l)<|ln []).run prog a=.ok (decide (l=[])) a:=λa=>gX s Good.nil a;have d:∀a,(Op.equalIn 10000 147 (ln m)<|ln []).run prog a=.ok (decide (m=[])) a:=λa=>gX u Good.nil a;obtain⟨h,i,j,k,Z,n⟩:=sf l;obtain⟨d0,d1,d2,d3,d4,o⟩:=sf m;unfold ln at f c d;simp only[n,o]at c d;rw[n,o];unfold jn at f c d;simp only[tQ]at f c d;have⟨p,v,x,y⟩:=JU w h i j k Z d0 d1 d2 d3 d4;have b:=mi ((w.k (ml h i j k Z) 147).k (ml d0 d1 d2 d3 d4) 147).drew.heap.size ((w.k (ml h i j k Z) 147).k (ml d0 d1 d2 d3 d4) 147).drew;have g:fe _:=And.intro v<|And.intro x y;clear v x y n o s u;by_cases q:l=[]
 case' pos=>
  rw[qu q]at c;generalize decide (m=[])=C at d;go_enter func72,ntmps72;go_wp2
  go_region_with(first|(go_at_call 75;refine(f _).mono ?_;rintro e O ⟨rfl,r⟩;replace b:=gS b r;obtain⟨D,E,F,G,I,J,K,L,M,N⟩:=p.below b g.o.1 g.o.2.1))
 case' neg=>
  have A:m=[]:=z.resolve_left q;rw[yv q]at c;rw[qu A]at d;go_enter func72,ntmps72;go_wp2
  go_region_held3 (λH=>H.c w.heap.size 0=fh (hh h)/\H.c w.heap.size 1=fh (hh i)/\H.c w.heap.size 2=fh (hh j)/\H.c w.heap.size 3=fh (hh k)/\H.c w.heap.size 4=fh (hh Z)/\H.c (w.heap.size+1) 0=fh (hh d0)/\H.c (w.heap.size+1) 1=fh (hh d1)/\H.c (w.heap.size+1) 2=fh (hh d2)/\H.c (w.heap.size+1) 3=fh (hh d3)/\H.c (w.heap.size+1) 4=fh (hh d4)) (first|exact p|exact B) (first|(go_at_call 75;refine(f _).mono ?_;rintro e O ⟨rfl,r⟩;replace b:=gS b r;have B:=p.below b g.o.1 g.o.2.1))
 all_goals
  all_goals
   go_wp2;go_ret;exact⟨fX,gS g.o.2.2 b⟩
abbrev BN:=Bool×Int×Int×Int
def mQ (a:BN):iN:=[fE a.1,.int .i64 a.2.1,.int .i64 a.2.2.1,.int .i64 a.2.2.2]
def xf (hs:List BN):iN:=hs.flatMap mQ
theorem hmo:∀(hs:List BN)(k a:Nat)(d:k<fv hs)(b:a<4),(xf hs)[4*k+a]?=(mQ hs[k])[a]?
 |x::c,0,a,_,b=>by
  grind [mQ,xf,wk]
 |x::c,k+1,a,d,b=>by
  show(mQ x++xf c)[4*(k+1)+a]?=_
  rw[BU (by show 4<=4*(k+1)+a;omega)]
  have:=hmo c k a (by simpa using d) b
  grind [mQ]
theorem Ml(hs):fv (xf hs)=4*fv hs:=by
 induction hs with
 |nil=>rfl
 |cons x a b=>
  grind [mQ,xf,lI]
def tI (hs:List BN)(n:Int):Bool:=decide (0<=n)&&decide (n<8)&&(match hs[n.toNat]? with|some a=>a.1|none=>fo)
theorem BO{hs}{n:Int}(a:¬(0<=n/\n<8)):tI hs n=fo:=by
 grind [tI,yv]
theorem GI{hs:List BN}{k:Nat}(a:k<fv hs)(b:fv hs=8):tI hs (k:Int)=hs[k].1:=by
 grind [tI,qu,Int,qE,jH]
section
variable {hs:List BN}
theorem gp.tab(a:gp F w S na da nc dc E data (xf hs++more)){k f:Nat}(b:k<fv hs)(c:f<4):w.c S (2+k*4+f)=(mQ hs[k])[f]?:=by
 have d:4*k+f<fv (xf hs):=by rw[Ml];omega
 simp only[World.cell?,a.hS]
 grind [List.getElem?_cons_succ,wk,hmo]
theorem jI(a:gp F w S na da nc dc E data (xf hs++more))(b:fv hs=8)(n:Int):
  ik 163 #[ie S,fY n] w (PP (fE<|tI hs n) w):=by
 by_cases c:0<=n/\n<8
 ·obtain⟨k,rfl⟩:∃k:Nat,n=(k:Int):=⟨n.toNat,by omega⟩
  have d:k<fv hs:=by omega
  have c0:w.c S (2+k*4)=fh (fE hs[k].1):=a.tab (f:=0) d (by omega);rw[GI d b];generalize hs[k].1=u at c0 |-;have t1:(0:Int)<=(k:Int):=by omega
  have t2:(k:Int)<8:=by omega
  clear a c d b;cases u
  all_goals
   go_enter func163,ntmps163;go_wp2;go_ret;exact⟨fX,fX⟩
 rw[BO c];clear a b;by_cases e:0<=n
 case' pos=>have t2:decide (n<8)=fo:=yv λa=>c ⟨e,a⟩
 case' neg=>have t1:decide (0<=n)=fo:=yv e
 all_goals
  go_enter func163,ntmps163;go_wp2;go_ret;exact⟨fX,fX⟩
end
abbrev Fls:=Nat->Option (Int×fP)
abbrev Ops:=Nat->Option (Nat×Nat×Int×Int)
def wF (E:List fV):Prop:=∀e∈E,∀a∈E,e.2.1=1->a.2.1=1->e.2.2=a.2.2->e.1=a.1
theorem Qj{E}(a:wF E)(S):wF (vx E S):=λe b c d=>a e (zx.1 b).1 c (zx.1 d).1
theorem Qk{E}(c:wF E){x:fV}(k:x.2.1=1->∀e∈E,e.2.1=1->e.2.2≠x.2.2):wF (E++[x]):=by
 intro e d f g h i j;rcases qw.1 d with a|a<;>rcases qw.1 g with b|b
 exact c e a f b h i j
 all_goals grind
theorem Zy{E}(i:wF E)(S a):wF (E.map<|pm S a):=by
 have f:∀e,(pm S a e).2=e.2:=λe=>by unfold pm;split<;>rfl
 have j:∀e b:fV,e.1=b.1->(pm S a e).1=(pm S a b).1:=λe b c=>by unfold pm;rw[c];split<;>first|rfl|exact c
 intro e c b k g h d;obtain⟨x,l,rfl⟩:=ja.1 c;obtain⟨y,m,rfl⟩:=ja.1 k;rw[f]at g d;rw[f]at h d;exact j _ _<|i x l y m g h d
theorem ro{e:Type}(d:e->Prop){c:Prop}[Decidable c]{a b:e}(f:d a)(g:d b):d (if c then a else b):=by
 grind
def PN (x:List fV×Int):Prop:=wF x.1
def Zz{E}(a:wF E)(S):PN (ww E S):=by
 repeat apply ro PN (show PN (E,_)from a)
 exact Qk a (x:=(S,2,0)) (λe=>by cases e)
def Ud{E}(a:wF E)(S):PN (rb E S):=by
 repeat apply ro PN (show PN (E,_)from a)
 exact Qj a S
def Ue{E}(b:wF E)(S a):PN (xj E S a):=by
 repeat apply ro PN (show PN (E,_)from b)
 exact Zy (Qj b a) S a
def Over (fl:Fls)(φ:Nat->Nat)(data:fT)(c:jJ)(b:fT):Prop:=
 fv b=fv data/\(∀a,fl a≠fj->b[φ a]?=fh (c a))/\∀k,(∀a,fl a≠fj->φ a≠k)->b[k]?=data[k]?
def aaD (φ:Nat->Nat):Option (Nat×Nat×Int×Int)->BN
 |none=>(fo,0,0,0)
 |some x=>(fm,(φ x.2.1:Int),x.2.2.1,x.2.2.2)
structure oP (gM:List Ob)(fl:Fls)(op:Ops)(t:LT)(nodes:List fV)(data:fT)(hs:List BN)(φ:Nat->Nat):Prop where
 inj:∀f f',fl f≠none->fl f'≠none->φ f=φ f'->f=f'
 cont:∀f,fl f≠none->data[φ f]?=some (gz gM fl f)
 par:∀c kM,Over fl φ data c kM->Reads gM c t nodes kM
 num:wF nodes
 h8:hs.length=8
 tab:∀k,k<8->hs[k]?=some (aaD φ (op k))
 opf:∀k x,op k=some x->fl x.2.1≠none
theorem Hd{b:Type}{fl:Nat->Option b}{f}{x:b}(a:Nat):pC fl f (fh x) a≠fj↔a=f\/fl a≠fj:=by
 grind [pC]
theorem VU(A)(fl:Fls)(a)(d:fP):gz A (pC fl a<|fh (0,d)) a=d:=by unfold gz;rw[ld];rfl
def GJ(A){fl:Fls}{b a:Nat}(c:a≠b)(x:Option (Int×fP)):gz A (pC fl b x) a=gz A fl a:=by unfold gz;rw[kx c]
section
variable {fl:Fls}{op:Ops}{hs:List BN}
def oP.reads(a:oP A fl op t E data hs φ):Reads A (gz A fl) t E data:=a.par _ _ ⟨fX,a.cont,λ_ _=>rfl⟩
def oP.tree(a:oP A fl op t E data hs φ){f}{b}(h:∀c e,fv e=fv data->Reads A c t E e->Reads A c f b e)(i:wF b):oP A fl op f b data hs φ:=
 ⟨a.inj,a.cont,λc d g=>h c d g.1<|a.par c d g,i,a.h8,a.tab,a.opf⟩
theorem oP.write(g:oP A fl op t E data hs φ){f:Nat}(l:fl f≠fj)(d:fP):oP A (pC fl f<|fh (0,d)) op t E (data.set (φ f) d) hs φ:=by
 have j:∀h,pC fl f (fh ((0:Int),d)) h≠fj->fl h≠fj:=λh m=>((Hd h).1 m).elim (λe=>by rw[e];exact l) id;have n:∀h,fl h≠fj->pC fl f (fh ((0:Int),d)) h≠fj:=λh m=>(Hd h).2<|.inr m;have v:=(wH.1<|g.cont f l).1;refine⟨λa b i o=>g.inj a b (j a i)<|j b o,λa i=>?_,λc p⟨q,r,w⟩=>g.par c p ⟨by rw[q];simp,λa i=>r a<|n a i,λk y=>?_⟩,g.num,g.h8,g.tab,λk x s=>n _<|g.opf k x s⟩;by_cases e:a=f
 grind [VU,Rm]
 rw[GJ A e,EF λu=>e (g.inj _ _ l (j a i) u).symm,g.cont a<|j a i]
 grind
theorem oP.opens(a:oP A fl op t E data hs φ){k:Nat}(h:k<8)(c:Option (Nat×Nat×Int×Int))(i:∀x,c=fh x->fl x.2.1≠fj):oP A fl (pC op k c) t E data (hs.set k<|aaD φ c) φ:=by
 have j:=a.h8;refine⟨a.inj,a.cont,a.par,a.num,by simpa using a.h8,λb f=>?_,λb x d=>?_⟩;by_cases e:b=k
 grind [ld,Rm]
 rw[kx e,EF λg=>e g.symm,a.tab b f];by_cases e:b=k
 grind [ld]
 rw[kx e]at d;exact a.opf b x d
theorem GK{x}{y:Int}(a:gm E x=fh (1,y)):∃e∈E,e.1=fG x/\e.2=(1,y):=by
 grind [gm,EC,Ht]
theorem wF.look(c:wF E){x y}{k:Int}(d:gm E x=fh (1,k))(f:gm E y=fh (1,k))(g:fL x)(h:fL y):x=y:=by
 have⟨e,i,j,a⟩:=GK d;have⟨l,m,n,b⟩:=GK f;exact sq g h (by rw[<-j,<-n];exact c e i l m (by rw[a]) (by rw[b]) (by rw[a,b]))
def GL(c){x:LT}(a:x.kind=1)(m:fP)(b:fT):xc A c x (m::b)=fj:=by
 rw[ui];cases x<;>first|rfl|cases a
theorem gf.num(hs:gf E data){x}{y:Int×Int}(a:gm E x=fh y)(b:y.1=1):0<=y.2/\y.2<(fv data:Int):=by
 obtain⟨e,c,_,d⟩:=GK (y:=y.2) (by rw[a,<-b])
 have:=hs.files e c (by rw[d])
 grind
theorem VV(hs:gf E data){d1 d2:fT}{x}(c:∀k:Nat,gm E x=fh (1,(k:Int))->d1[k]?=d2[k]?):(gm E x).map (Iz d1)=(gm E x).map (Iz d2):=by
 rcases a:gm E x with _|y
 rfl;have⟨b,m⟩:=y;rw[oV,oV];unfold Iz;rcases tG hs a with e|e
 have e:b=1:=e;subst e;have⟨d,_⟩:=hs.num a fX
 grind
 grind
theorem oP.free(c:oP A fl op t E data hs φ){p}{k:Nat}{id:Int}(j:fL p)(l:t.at A p=fh (.file id))(m:gm E p=fh (1,(k:Int))):∀b,fl b≠fj->φ b≠k:=by
 intro b f e;have n:=(wH.1<|c.cont b f).1;have h:∀d:fP,bytesOf A id=d:=λd=>by
  have:=c.par (pC (gz A fl) b d) (data.set (φ b) d) ⟨by simp,λa i=>?_,λk o=>EF<|o b f⟩ p j
  rw[m,e]at this;unfold xc at this;rw[l,oV,oV,pV,Iz,km<|by simp,qE,Rm<|by omega]at this;exact Nd.file.inj this;by_cases g:a=b;rw[g,ld,Rm n];rw[kx g,EF λq=>g (c.inj _ _ f i q).symm,c.cont a i]
 have:=(h kq).symm.trans<|h ⟨#[0]⟩
 cases this
theorem oP.hold(g:oP A fl op t E data hs φ)(F:Sound A)(N:fM A 5 t)(G:gf E data){h k:Nat}{id:Int}{j:fT}{n:fP}{d:LT}{Y:Kids}(Z:fl h=fj)(hid:id≠0)(y:fL (j++[n]))
  (p:t.at A j=fh d)(s:kids A d=fh Y)(H:jp Y n=fh (.file id))(u:gm E (j++[n])=fh (1,(k:Int))):
  oP A (pC fl h<|fh (id,kq)) op (vy A (λY=>zr Y n<|.held h) j t) E data hs (pC φ h k):=by
 have I:t.at A (j++[n])=fh (.file id):=by rw[lx,p];show d.at A [n]=_;rw[lh,s,wd,H,wd,oX]
 have O:=g.free y I u;have l:∀z,fl z≠fj->z≠h:=λz P e=>P (by grind);have B:=λc:jJ=>Eu (fc:=c) (n:=n) ((lO F (tA F _ N p).2.1 s).1) p s<|.held h;have Q:data[k]?=fh (bytesOf A id):=by
  have:=g.reads (j++[n]) y
  have R:=G.num u fX;have J:k<fv data:=by simp only at R;omega
  unfold xc at this;rw[I,u,oV,oV,pV,Iz,km<|by simp,qE,jH J]at this;rw[jH J];exact congrArg fh (Nd.file.inj this).symm
 refine⟨λa b p S e=>?_,λa o=>?_,λc C⟨T,K,U⟩x q=>?_,g.num,g.h8,λi r=>?_,λi x q=>(Hd _).2<|.inr (g.opf i x q)⟩;rcases(Hd a).1 p with f|f<;>rcases(Hd b).1 S with v|v
 rw[f,v]
 grind [ld,kx,absurd]
 grind [ld,kx,absurd]
 rw[kx<|l a f,kx<|l b v]at e;exact g.inj a b f v e;rcases(Hd a).1 o with f|f
 grind [ld,gz,hid]
 rw[kx<|l a f,GJ A<|l a f,g.cont a f];have V:k<fv C:=by
  grind
 have W:C[k]?=fh (c h):=by have:=K h<|(Hd h).2 (.inl fX);rwa [ld]at this
 have L:=g.par c (C.set k (bytesOf A id)) ⟨by simpa using T,λa o=>by
   rw[EF λe=>O a o e.symm]
   have:=K a<|(Hd a).2 (.inr o)
   rwa [kx<|l a o]at this,λi r=>by
   by_cases e:k=i;rw[<-e,Rm V,Q];rw[EF e];refine U i λa o=>?_;rcases(Hd a).1 o with f|f
   rwa [f,ld];rw[kx<|l a f];exact r a f⟩
 by_cases D:(j++[n]) <+: x;obtain⟨w,rfl⟩:=D;rcases w with _|⟨m,w⟩
 have:=(B c).1 []
 rw[lJ]at q |-;rw[this,px,u,oV,Iz,km<|by simp,qE,W];rfl;have M:j++[n]++m::w=j++n::(m::w):=by simp
 have:=L _ q
 rw[M,mX p s,H,wd,GL c fX]at this;rw[M,(B c).1,GL c fX]
 grind [bwd]
 rw[(B c).2 x D,L x q];refine VV G λi r=>?_;by_cases e:k=i;exact absurd (g.num.look r (by grind) q y) λe=>D (by grind)
 grind
 rw[g.tab i r];cases X:op i with
 |none=>rfl
 |some x=>show fh (fm,((φ x.2.1:Nat):Int),_,_)=fh (fm,((pC φ h k x.2.1:Nat):Int),_,_);rw[kx<|l _ (g.opf i x X)]
theorem oP.create(h:oP A fl op t E data hs φ)(F:Sound A)(M:fM A 5 t)(w:gf E data){f}{j:fT}{n:fP}{d:LT}{Y:Kids}(Z:fl f=fj)(G:fL (j++[n]))
  (s:t.at A j=fh d)(y:kids A d=fh Y)(N:jp Y n=fj):
  oP A (pC fl f<|fh (0,kq)) op (vy A (λY=>zr Y n<|.held f) j t) (E++[(fG<|j++[n],1,(fv data:Int))]) (data++[kq]) hs (pC φ f<|fv data):=by
 have o:∀l,fl l≠fj->l≠f:=λl z e=>z (by grind);have H:∀l,fl l≠fj->φ l<fv data:=λl z=>(wH.1 (h.cont l z)).1;have B:=λc:jJ=>Eu (fc:=c) (n:=n) ((lO F (tA F _ M s).2.1 y).1) s y<|.held f;have I:∀(c:jJ)(p:fT),xc A c t (j++n::p)=fj:=λc p=>by rw[mX s y,N];rfl
 have O:=(h.reads.empty G).2<|I _ [];have P:=λ{m:fT}(Q:fL m)=>CM (k:=1) (f:=(fv data:Int)) G (by simp) Q O;refine⟨λa b s R e=>?_,λa q=>?_,λc C⟨S,J,T⟩x r=>?_,Qk h.num λ_ e U V=>?_,h.h8,λi u=>?_,λi x r=>(Hd _).2<|.inr (h.opf i x r)⟩;rcases(Hd a).1 s with g|g<;>rcases(Hd b).1 R with v|v
 rw[g,v]
 grind [ld,kx]
 grind [ld,kx]
 rw[kx<|o a g,kx<|o b v]at e;exact h.inj a b g v e;rcases(Hd a).1 q with g|g
 grind [ld,VU]
 rw[kx<|o a g,GJ A<|o a g,wk<|H a g,h.cont a g];have aa:fv C=fv data+1:=by simpa using S
 have W:C[fv data]?=fh (c f):=by have:=J f<|(Hd f).2 (.inl fX);rwa [ld]at this
 have K:=h.par c (C.take<|fv data) ⟨by rw[kV];omega,λa q=>by
   rw[MW<|H a q]
   have:=J a<|(Hd a).2 (.inr q)
   rwa [kx<|o a q]at this,λi u=>by
   by_cases e:i<fv data;rw[MW e,T i λa q=>?_,wk e];rcases(Hd a).1 q with g|g
   rw[g,ld];omega;rw[kx<|o a g];exact u a g;rw[wm (by grind),wm<|by omega]⟩
 rw[P r];by_cases D:(j++[n]) <+: x;obtain⟨p,rfl⟩:=D;rcases p with _|⟨m,p⟩
 have:=(B c).1 []
 rw[lJ]at r |-;rw[this,px,lv fX,oV,Iz,km<|by simp,qE,W];rfl;have L:j++[n]++m::p=j++n::(m::p):=by simp
 have:=K _ r
 rw[L,I]at this;rw[km<|by simp,L,(B c).1,GL c fX,bwd.1 this.symm];rfl;rw[(B c).2 x D,K x r,km λe=>D (by grind)];refine VV w λi u=>?_
 have:=w.num u fX
 grind
 have:=w.files e U V
 grind
 rw[h.tab i u];rcases X:op i with _|x
 rfl;show fh (fm,((φ x.2.1:Nat):Int),_,_)=fh (fm,((pC φ f (fv data) x.2.1:Nat):Int),_,_);rw[kx<|o _ (h.opf i x X)]
end
def ndK:Nd->Int
 |.dir=>2
 |.file _=>1
def vis(a)(fc)(t):ndK (nd a fc t)=t.kind:=by cases t<;>rfl
def VW (a:fT)(x:Nd):Mb:=(lA a,ndK x,ndD x)
def Hk (a:List Ob)(fc:jJ)(b:Option LT)(y:fT):Option Nd:=b.bind λc=>xc a fc c y
def li (a:List Ob)(b:Option LT):Kids:=(b.bind<|kids a).getD []
def jC:Option Nd->Option fP
 |some (.file d)=>fh d
 |_=>fj
def nV (S a:fT->Option Nd)(y:fT):Option Int:=match jC (S y),jC (a y) with
 |some d,fh b=>if d=b then fj else fh 2
 |some _,fj=>fh 1
 |none,fh _=>fh 3
 |none,fj=>fj
def zv (a:fT)(x y:Option fP):List (fT×Int):=match x,y with
 |some _,fh _=>[(a,2)]
 |some _,fj=>[(a,1)]
 |none,fh _=>[(a,3)]
 |none,fj=>[]
noncomputable def cmpL (a:List Ob)(fc tu:jJ):Nat->fT->Option LT->Option LT->List (fT×Int)
 |0,q,now,was=>@ite _ (∀y,Hk a fc now y=Hk a tu was y) (Classical.propDecidable _) [] (zv q (jC (Hk a fc now [])) (jC (Hk a tu was [])))
 |n+1,q,now,was=>@ite _ (∀y,Hk a fc now y=Hk a tu was y) (Classical.propDecidable _) []
   (zv q (jC (Hk a fc now [])) (jC (Hk a tu was []))++((li a now).flatMap (fun x=>cmpL a fc tu n (q++[x.1]) (some x.2) (jp (li a was) x.1))++((li a was).filter fun x=>(jp (li a now) x.1).isNone).flatMap (fun x=>cmpL a fc tu n (q++[x.1]) none (some x.2))))
def GM (a:List Ob)(n:Nat)(b:Option LT):Prop:=∀c,b=fh c->fM a n c
theorem mR(g:Sound a){n}{b}(e:GM a n b):fO (li a b)/\∀x∈li a b,∃m,n=m+1/\fM a m x.2:=by
 cases b with
 |none=>exact⟨List.Pairwise.nil,λx d=>by cases d⟩
 |some c=>
  have h:=e c fX;unfold li;rcases f:kids a c with _|Y
  simp only[wd,f,WE];exact⟨List.Pairwise.nil,λx d=>by cases d⟩
  grind [lO]
theorem CR(b)(m:fP)(y:fT):Hk a fc b (m::y)=Hk a fc (jp (li a b) m) y:=by
 rcases b with _|c
 rfl;show xc a fc c (m::y)=_;rw[ui];unfold li;cases d:kids a c with
 |none=>simp only[wd,d,WE];rfl
 |some Y=>simp only[wd,d,sA];rfl
theorem mS{Y}{m}{c:LT}(a:jp Y m=fh c):(m,c)∈Y:=by
 grind [jp,EC,Ht]
theorem iu{Y}(a:fO Y){x:fP×LT}(b:x∈Y):jp Y x.1=fh x.2:=by
 grind [rD,yh]
theorem jO(d:Sound a){n:Nat}{b:Option LT}(f:GM a (n+1) b)(m):GM a n (jp (li a b) m):=λc g=>by
 obtain⟨k,e,h⟩:=(mR d f).2 (m,c)<|mS g
 have:k=n:=by omega
 subst this
 exact h
theorem Ql{S a:fT->Option Nd}(c:jC (S [])=fj\/jC (a [])=fj\/jC (S [])≠jC (a [])){b y:fT}{w:Int}:(y,w)∈zv b (jC<|S []) (jC<|a [])↔y=b/\nV S a []=fh w:=by
 grind [zv,nV,jC]
theorem differ{n:Nat}{b T}(j:¬ ∀y,Hk a fc b y=Hk a tu T y):jC (Hk a fc b [])=fj\/jC (Hk a tu T [])=fj\/jC (Hk a fc b [])≠jC (Hk a tu T []):=by
 cases l:jC (Hk a fc b []) with
 |none=>exact .inl fX
 |some d=>
  cases m:jC (Hk a tu T []) with
  |none=>exact .inr<|.inl fX
  |some o=>
   refine .inr (.inr λe=>j ?_);have p:∀{fc:jJ}{f:Option LT}{d:fP},jC (Hk a fc f [])=fh d->∀y,Hk a fc f y=if y=[]then fh (.file d)else fj:=by
    intro fc f d h y;rcases f with _|c
    cases h;have hs:xc a fc c []=fh (nd a fc c):=px a fc c;have g:jC (fh<|nd a fc c)=fh d:=by rw[<-hs];exact h
    cases c with
    |file i=>
     show xc a fc (.file i) y=_;rw[PL];cases g;rfl
    |held k=>
     show xc a fc (.held k) y=_;rw[PM];cases g;rfl
    |dir i=>cases g
    |own q=>cases g
   grind
theorem Ez(i:Sound a):∀(n:Nat)(j:fT)(b T:Option LT),GM a n b->GM a n T->∀y w,(y,w)∈cmpL a fc tu n j b T↔∃z,y=j++z/\nV (Hk a fc b) (Hk a tu T) z=fh w:=by
 have same:∀{b T:Option LT},(∀y,Hk a fc b y=Hk a tu T y)->∀z,nV (Hk a fc b) (Hk a tu T) z=fj:=by
  grind [nV,jC,Hk]
 intro n
 induction n with
 |zero=>
  intro j b T o p y w;rw[cmpL];by_cases f:∀y,Hk a fc b y=Hk a tu T y
  grind
  rw[km f,Ql<|differ (n:=0) f];constructor
  grind
  rintro⟨z,rfl,d⟩;rcases z with _|⟨m,z⟩
  exact⟨by simp,d⟩;have r:li a b=[]:=by
   cases s:li a b with
   |nil=>rfl
   |cons x t=>obtain⟨k,e,_⟩:=(mR i o).2 x (by grind);omega
  have u:li a T=[]:=by
   cases s:li a T with
   |nil=>rfl
   |cons x t=>obtain⟨k,e,_⟩:=(mR i p).2 x (by grind);omega
  unfold nV at d;rw[CR,CR,r,u]at d;cases d
 |succ n A=>
  intro j b T o p y w;rw[cmpL];by_cases f:∀y,Hk a fc b y=Hk a tu T y
  grind
  rw[km f,qw,qw,Ql<|differ (n:=0) f];have B:=(mR i o).1;have step:∀m z,nV (Hk a fc b) (Hk a tu T) (m::z)=nV (Hk a fc<|jp (li a b) m) (Hk a tu<|jp (li a T) m) z:=by
   grind [nV,CR]
  constructor;rintro(⟨rfl,d⟩|g|g)
  grind
  obtain⟨x,l,g⟩:=wA.1 g
  grind [iu,jp,li,jO,sL,step]
  obtain⟨x,l,g⟩:=wA.1 g;obtain⟨l,v⟩:=zx.1 l;have C:=iu ((mR i p).1) l;have h:jp (li a b) x.1=fj:=by simpa using v
  grind [jO,sL,step]
  rintro⟨z,rfl,d⟩;cases z with
  |nil=>exact .inl ⟨by simp,d⟩
  |cons m z=>
   right
   rw[step]at d;cases h:jp (li a b) m with
   |some c=>
    left
    rw[h]at d;refine wA.2 ⟨(m,c),mS h,?_⟩
    grind [jp,li,jO]
   |none=>
    right
    rw[h]at d;cases q:jp (li a T) m with
    |none=>rw[q]at d;cases d
    |some c=>
     rw[q]at d;refine wA.2 ⟨(m,c),zx.2 ⟨mS q,by simp[h]⟩,?_⟩
     grind [jO]
theorem hmp(f:Sound a):∀(n:Nat)(b:fT)(i T:Option LT),GM a n i->GM a n T->(cmpL a fc tu n b i T).Pairwise λx y=>x.1≠y.1:=by
 have v:∀(b:fT)(x y:Option fP),(zv b x y).Pairwise (λx y=>x.1≠y.1)/\∀z∈zv b x y,z.1=b:=by
  intro b x y;unfold zv;cases x<;>cases y<;>simp
 intro n
 induction n with
 |zero=>
  grind [cmpL,List.Pairwise.nil]
 |succ n w=>
  intro b i T q j;rw[cmpL];split;exact List.Pairwise.nil;have r:=(mR f q).1;have s:=(mR f j).1;have K:∀x∈li a i,∀z∈cmpL a fc tu n (b++[x.1]) (fh x.2) (jp (li a T) x.1),∃y,z.1=b++x.1::y:=λx g z t=>by
   obtain⟨y,e,_⟩:=(Ez f n (b++[x.1]) (fh x.2) (jp (li a T) x.1) (by rw[<-iu r g];exact jO f q x.1) (jO f j x.1) z.1 z.2).1 t;exact⟨y,by rw[e,sL];rfl⟩
  have L:∀x∈(li a T).filter λx=>(jp (li a i) x.1).isNone,∀z∈cmpL a fc tu n (b++[x.1]) fj (fh x.2),∃y,z.1=b++x.1::y:=λx g z t=>by
   obtain⟨y,e,_⟩:=(Ez f n (b++[x.1]) fj (fh x.2) (λc k=>by cases k) (by rw[<-iu s (zx.1 g).1];exact jO f j x.1) z.1 z.2).1 t;exact⟨y,by rw[e,sL];rfl⟩
  have apart:∀{A B:fP}{F G:fT},A≠B->b++A::F≠b++B::G:=λC e=>by
   have:=Hu e
   exact C (hX1 this).1
  have C:∀{x y:fP×LT},jb x.1 y.1<0->x.1≠y.1:=λk e=>by rw[e,jc]at k;omega
  refine hyz.2 ⟨(v _ _ _).1,hyz.2 ⟨?_,?_,?_⟩,?_⟩;rw[sev];refine⟨λx g=>w (b++[x.1]) _ _ (by rw[<-iu r g];exact jO f q x.1)<|jO f j x.1,?_⟩;refine List.Pairwise.imp_of_mem ?_ r;intro D l E u H o h p d
  grind
  rw[sev];refine⟨λx g=>w (b++[x.1]) _ _ (λc k=>by cases k) (by rw[<-iu s (zx.1 g).1];exact jO f j x.1),?_⟩;refine List.Pairwise.imp_of_mem ?_<|s.filter _;intro D l E u H o h p d
  grind
  intro o h p d;obtain⟨D,E,h⟩:=wA.1 h;obtain⟨l,u,d⟩:=wA.1 d
  grind [apart,iu]
  intro o h p d e;have I:∃m y,p.1=b++m::y:=by
   rcases qw.1 d with d|d
   obtain⟨l,u,d⟩:=wA.1 d
   grind
   obtain⟨l,_⟩:=wA.1 d
   grind
  obtain⟨m,y,J⟩:=I;rw[((v _ _ _).2 o h),J]at e
  have:=congrArg List.length e
  simp at this
def py (a:List Ob)(fc:jJ):Nat->fT->LT->List (fT×Nd)
 |0,_,_=>[]
 |n+1,b,c=>((kids a c).getD []).flatMap λx=>(b++[x.1],nd a fc x.2)::(if x.2.kind=2 then py a fc n (b++[x.1]) x.2 else [])
def DK{a}{fc}:∀(n:Nat)(b:fT)(t:LT),qM a fc n b t=(py a fc n b t).map λx=>VW x.1 x.2
 |0,b,t=>rfl
 |n+1,b,t=>by
  rw[qM,py,List.map_flatMap]
  congr 1
  funext x
  rw[lM]
  unfold VW
  rw[vis]
  split
  rw[DK n (b++[x.1]) x.2]
  rfl
  rfl
theorem CS{a}{fc}:∀(n:Nat)(c:fT)(t:LT)z,z∈py a fc n c t->∃y,y≠[]/\z.1=c++y
 |0,c,t,z,b=>by cases b
 |n+1,c,t,z,b=>by
  rw[py]at b
  have⟨x,d,b⟩:=wA.1 b
  rcases mB.1 b with rfl|b
  grind
  split at b
  have⟨y,f,e⟩:=CS n (c++[x.1]) x.2 z b
  grind
  cases b
theorem GN{a}(d:Sound a){fc}:∀(n:Nat)(b:fT)(t:LT),fM a n t->(py a fc n b t).Pairwise λx y=>¬y.1 <+: x.1
 |0,b,t,_=>List.Pairwise.nil
 |n+1,b,t,h=>by
  rw[py]
  by_cases f:t.kind=2
  ·have⟨Y,g⟩:=rq (a:=a) f
   have⟨i,_,j⟩:=lO d h g
   rw[g,sA,sev]
   refine⟨λx k=>?_,?_⟩
   ·have⟨m,e,l⟩:=(j x k).2
    have o:m=n:=by omega
    subst o
    refine sB.2 ⟨λz c p=>?_,?_⟩
    ·split at c
     ·have⟨y,q,e⟩:=CS m (b++[x.1]) x.2 z c
      all_goals simp_all
     cases c
    split
    exact GN d m (b++[x.1]) x.2 l
    all_goals simp_all
   refine List.Pairwise.imp ?_ i
   intro r s u v w A B p
   have C:∀(x:fP×LT)z,z∈((b++[x.1],nd a fc x.2)::(if x.2.kind=2 then py a fc n (b++[x.1]) x.2 else []))->∃y,z.1=b++x.1::y:=by
    intro x z c;rcases mB.1 c with rfl|c
    grind
    split at c;have⟨y,q,e⟩:=CS n (b++[x.1]) x.2 z c
    grind
    cases c
   grind [bol,Ro,jc]
  rw[pP f]
  all_goals simp_all
theorem GQ{a}(o:Sound a){fc}{t}(g:fM a 5 t){y:fT}{x:Nd}:(y,x)∈py a fc 5 [] t↔y≠[]/\xc a fc t y=fh x:=by
 have v:∀(n:Nat)(h:fT)(t:LT),fM a n t->∀z,z∈py a fc n h t↔∃y x,y≠[]/\xc a fc t y=fh x/\z=(h++y,x):=by
  intro n
  induction n with
  |zero=>
   intro h t g z;rw[py];constructor
   grind
   rintro⟨y,x,i,hs,_⟩;have⟨c,j,_⟩:=EC.1 hs
   have:=(tA o _ g j).1
   grind
  |succ n A=>
   intro h t g z;rw[py];by_cases d:t.kind=2;have⟨Y,l⟩:=rq (a:=a) d;have⟨q,_,r⟩:=lO o g l;rw[l,sA,wA];have B:∀w∈Y,jp Y w.1=fh w.2:=λw f=>by
    obtain⟨k,d,rfl⟩:=rD f;exact yh q d
   constructor
   grind [mB,ui,wd,px,sL]
   rintro⟨y,x,i,hs,e⟩;cases y with
   |nil=>exact absurd fX i
   |cons b y=>
    rw[ui,l,wd]at hs;have⟨c,j,hs⟩:=Option.bind_eq_some_iff.1 hs;have s:∃w∈Y,w.1=b/\w.2=c:=by
     have⟨w,f,C⟩:=EC.1 j
     grind
    obtain⟨w,f,rfl,rfl⟩:=s;have⟨m,D,E⟩:=(r w f).2;have u:m=n:=by omega
    subst u;refine⟨w,f,?_⟩;rcases y with _|⟨F,y⟩
    grind [px,rF,oK]
    refine wq _ ?_;have G:w.2.kind=2:=by
     by_cases p:w.2.kind=2;exact p;rw[ui,pP p]at hs;cases hs
    grind
   rw[pP d];constructor
   grind
   rintro⟨y,x,i,hs,_⟩;rcases y with _|⟨b,y⟩
   grind
   rw[ui,pP d]at hs;cases hs
 grind
theorem hmr(b:Sound a)(d:fM a 5 t){y}{x:Nd}(e:xc a fc t y=fh x):Good y:=by
 have⟨c,f,_⟩:=EC.1 e;have⟨g,_,h⟩:=tA b _ d f;exact⟨h,g⟩
theorem hm0{S b:fT->Option Nd}{y}{w:Int}(a:nV S b y=fh w):(w=1\/w=2)/\(∃x,S y=fh x)\/w=3/\∃x,b y=fh x:=by
 unfold nV at a;rcases e:S y with _|x
 rw[e]at a;cases c:b y with
 |none=>rw[c]at a;cases a
 |some f=>
  rw[c]at a;cases f with
  |dir=>cases a
  |file g=>cases a;exact .inr ⟨fX,_,fX⟩
 rw[e]at a;cases x with
 |dir=>
  cases c:b y with
  |none=>rw[c]at a;cases a
  |some f=>
   grind
 |file d=>
  grind [jC]
theorem hm2(c:t.kind=2)(b:u.kind=2):nV (xc a fc t) (xc a tu u) []=fj:=by
 unfold nV;rw[px,px];cases t with
 |file i=>cases c
 |held d=>cases c
 |dir i=>cases u with
  |file i=>cases b
  |held d=>cases b
  |dir i=>rfl
  |own e=>rfl
 |own e=>cases u with
  |file i=>cases b
  |held d=>cases b
  |dir i=>rfl
  |own e=>rfl
theorem Qm(e dr ow)(a b c d Z f)(k i:Int)(w)
  (j:∀g,ju w g->(Instr.lookup 153 (.map<|fh ow) (fD<|ml a b c d Z) fm).run prog g=.ok (fC #[fY i,fE fm]) g):
  ik 74 #[fD #[ie e,ie dr,.map<|fh ow],fD<|ml a b c d Z,fD #[hh f,fY k,fY 0]] w (ut (fY i) w):=by
 have l:=j _<|oC w e dr ow a b c d Z f k 0;have h:=oC w e dr ow a b c d Z f k 0;clear j;unfold jN at l h
 change fe _ at h
 go_enter func74,ntmps74;go_wp2;go_ret;exact⟨fX,h⟩
def Uf{b}{d dr ow h:Nat}{e:fT->Option Int}(i:∃n,n<=h/\jV b ow n λa=>(e a).map<|Value.int .i64){a}(j:Good a){c:Int}(l:e a=fh c)(f)(k:Int):
  ik 74 #[fD #[ie d,ie dr,.map<|fh ow],fD<|jn a,fD #[hh f,fY k,fY 0]] b (ut (fY c) b):=by
 have⟨n,_,g⟩:=i;refine Qm d dr ow _ _ _ _ _ f k c b λm o=>?_
 have:=jV.look_ok (g.keep<|o.block ow g.lt) stk (rH m) j
 rwa [l]at this
theorem VX{a}(f:Exact a)(g:mL a){c u:LT}{A}{fc}{id:Int}(h:fM a 5 (kZ c.kind id))(hs:uQ a qQ (kZ c.kind id) A fc c)(j:fM a 5 u)(b:(∃i,u=.file i)\/∃i,u=.dir i)(k:c.kind=u.kind):id=u.id↔uQ A fc c a qQ u:=by
 have l:kZ c.kind u.id=u:=by
  rw[k];rcases b with⟨i,rfl⟩|⟨i,rfl⟩<;>rfl
 constructor;intro e y;rw[<-hs y,e,l];intro m;have n:nY a (λ_=>fj):=λp id d o=>by cases o
 have:=hki f g n 5 (kZ c.kind id) u h j b λy=>((hs y).trans (m y))
 have hid:(kZ c.kind id).id=id:=by unfold kZ;split<;>rfl
 have q:mn (λ_=>fj) 5 (kZ c.kind id) a=((kZ c.kind id).id,a):=by
  unfold kZ;split<;>rw[mn]<;>rfl
 grind
end Go.Proofs.YtlgidcmmgohagaaGreat
namespace Go.Proofs
open Go.Shelf
def Tryz.DL:Go.Shelf.Ren:=⟨λ|156=>249|165=>260|166=>261|169=>262|240=>265|241=>266|276=>267|277=>268|n=>n,λ|31=>131|9=>9|3=>3|4=>4|0=>0|20=>20|72=>344|76=>348|70=>342|37=>204|75=>347|127=>310|164=>353|5=>5|80=>234|n=>n,λ|n=>n⟩
def Tryz.aav:Go.Proofs.Lays.n156 Tryz.prog Tryz.DL:={
 mixed:=by kernel_rfl
 f156:=Tryz.func249.trans (congrArg some<|by kernel_rfl)
 f165:=Tryz.func260.trans (congrArg some<|by kernel_rfl)
 f166:=Tryz.func261.trans (congrArg some<|by kernel_rfl)
 f169:=Tryz.func262.trans (congrArg some<|by kernel_rfl)
 f240:=Tryz.func265.trans (congrArg some<|by kernel_rfl)
 f241:=Tryz.func266.trans (congrArg some<|by kernel_rfl)
 f276:=Tryz.func267.trans (congrArg some<|by kernel_rfl)
 f277:=Tryz.func268.trans (congrArg some<|by kernel_rfl)
 t0:=Tryz.underlying0
 a0:=Tryz.isAgg0
 z0:=Tryz.sizeOf0
 v0:=Tryz.zeroValue0
 t3:=Tryz.underlying3
 a3:=Tryz.isAgg3
 z3:=Tryz.sizeOf3
 v3:=Tryz.zeroValue3
 t4:=Tryz.underlying4
 a4:=Tryz.isAgg4
 z4:=Tryz.sizeOf4
 v4:=Tryz.zeroValue4
 t9:=Tryz.underlying9
 a9:=Tryz.isAgg9
 z9:=Tryz.sizeOf9
 v9:=Tryz.zeroValue9
 t20:=Tryz.underlying20
 a20:=Tryz.isAgg20
 z20:=Tryz.sizeOf20
 v20:=Tryz.zeroValue20
 t31:=Tryz.underlying131
 a31:=Tryz.isAgg131
 z31:=Tryz.sizeOf131
 v31:=Tryz.zeroValue131
 t37:=Tryz.underlying204
 a37:=Tryz.isAgg204
 z37:=Tryz.sizeOf204
 v37:=Tryz.zeroValue204
 t70:=Tryz.underlying342
 a70:=Tryz.isAgg342
 z70:=Tryz.sizeOf342
 v70:=Tryz.zeroValue342
 t72:=Tryz.underlying344
 a72:=Tryz.isAgg344
 z72:=Tryz.sizeOf344
 v72:=Tryz.zeroValue344
 t75:=Tryz.underlying347
 a75:=Tryz.isAgg347
 z75:=Tryz.sizeOf347
 v75:=Tryz.zeroValue347
 t76:=Tryz.underlying348
 a76:=Tryz.isAgg348
 z76:=Tryz.sizeOf348
 v76:=Tryz.zeroValue348
 t127:=Tryz.underlying310
 a127:=Tryz.isAgg310
 z127:=Tryz.sizeOf310
 v127:=Tryz.zeroValue310
 t164:=Tryz.underlying353
 a164:=Tryz.isAgg353
 z164:=Tryz.sizeOf353
 v164:=Tryz.zeroValue353 }
def Tryz.BP:Builder.Extra Tryz.prog Tryz.DL:={
 sizeBuilder:=by kernel_rfl
 liesBuilder:=by kernel_rfl
 t5:=Tryz.underlying5
 a5:=Tryz.isAgg5
 z5:=Tryz.sizeOf5
 v5:=Tryz.zeroValue5
 infoByte:=by kernel_rfl
 cellsByte:=by kernel_rfl
 sizeByte:=by kernel_rfl
 neB5:=by decide }
open Go.RowKit in
open Go.RowKit in
def Tryz.strings_Join(bk o c:Nat)(xs:List ByteArray)(sep:ByteArray)(w:World)(whi:∀(j:Nat)x,xs[j]?=some x->w.cell? ⟨bk,o+j,none⟩=some (.string x))(hbk:bk<w.heap.size)(hN:xs.length<=140737488355328)(acP:xs.length<=c)(hlen:(Lib.join (xs.map (·.data.toList)) sep.data.toList).length<=140737488355328):
  Calls Tryz.prog 249 #[.slice (some ⟨bk,o,none⟩) xs.length c,.string sep] w λe H=>e=.returned (.string ⟨(Lib.join (xs.map (·.data.toList)) sep.data.toList).toArray⟩)/\Below w.heap.size w H:=Any.strings_Join Tryz.aav Tryz.BP bk o c xs sep w whi hbk hN acP hlen
end Go.Proofs
namespace Go.Proofs.YtlgidcmmgohagaaGreat
open Go.RowKit Go.Sort Go.Shelf Go.Proofs.Tryz
open Go.Value renaming slice->fy,string->fA,pointer->fB,tuple->fC,agg->fD,bool->fE
open Go.Ending renaming returned->fF
open Option renaming some->fh,none->fj
open Bool renaming true->fm,false->fo
open Go renaming World->fq,Value->fu
open List renaming length->fv,reverse->fx
open Go.RowKit renaming Hid->fe
set_option maxRecDepth 100000
set_option maxHeartbeats 0
variable {s i p sv dr ow:Nat}{B:WB}{A a:List Ob}{t:LT}{fc tu:jJ}
theorem Ks:∀l:List (List UInt8),Lib.join l [47]=iY l
 |[]=>rfl
 |[x]=>Lib.join_one x _
 |x::y::a=>by
  have:=Ks (y::a)
  unfold Lib.join at this |-
  grind [iY,List.intercalate,List.intersperse]
theorem slT(b n:Nat)(c:n<=5)(a):(Instr.sliceAt 147 (ie b) fj (fh<|fY (n:Int)) fj).run prog a=.ok (my b 0 n 5) a:=by
 have d:∀(b:Nat)(a:fq),(Instr.sliceAt 147 (ie b) fj (fh<|fY 0) fj).run prog a=.ok (my b 0 0 5) a:=λb a=>by kernel_rfl
 have e:∀(b:Nat)(a:fq),(Instr.sliceAt 147 (ie b) fj (fh<|fY 1) fj).run prog a=.ok (my b 0 1 5) a:=λb a=>by kernel_rfl
 have f:∀(b:Nat)(a:fq),(Instr.sliceAt 147 (ie b) fj (fh<|fY 2) fj).run prog a=.ok (my b 0 2 5) a:=λb a=>by kernel_rfl
 have g:∀(b:Nat)(a:fq),(Instr.sliceAt 147 (ie b) fj (fh<|fY 3) fj).run prog a=.ok (my b 0 3 5) a:=λb a=>by kernel_rfl
 have h:∀(b:Nat)(a:fq),(Instr.sliceAt 147 (ie b) fj (fh<|fY 4) fj).run prog a=.ok (my b 0 4 5) a:=λb a=>by kernel_rfl
 have i:∀(b:Nat)(a:fq),(Instr.sliceAt 147 (ie b) fj (fh<|fY 5) fj).run prog a=.ok (my b 0 5 5) a:=λb a=>by kernel_rfl
 grind
theorem ZA(b c d f Z)(n:Nat)(r:n<=5)(s:fT)(k)(w)(u:fv s=n)
  (g:∀a,ik 142 #[fD<|ml b c d f Z] a<|ut (fY (n:Int)) a)
  (h:∀a,ju w a->a.heap[w.heap.size]?=fh (.cells (ml b c d f Z) 147 (0,0))->ik 249 #[my w.heap.size 0 n 5,fA ⟨#[47]⟩] a (ut (hh k) a)):
  ik 224 #[fD<|ml b c d f Z] w (ut (hh k) w):=by
 have v:=λa=>slT w.heap.size n r a;have l:fe _:=(mi w.heap.size w).alloc (lw _)<|.cells (ml b c d f Z) 147
 change fe _ at g h
 go_enter func224,ntmps224;go_wp2_with fail;refine RK (g _) ?_;rintro e O ⟨rfl,i⟩;have m:O.heap[w.heap.size]?=fh (.cells (ml b c d f Z) 147 (0,0)):=(i.block _<|by simp).trans<|nX w _;have j:ju w O:=gS l i;have o:fe _:=h O j m;have p:fe _:=j;clear h g l i m j;go_wp2_with fail;refine Calls.via o.o λx q=>?_
 have t:=gS p.o q;clear o p q;go_wp2;go_ret;exact⟨fX,t⟩
theorem hna(a)(c:Good a)(w:fq):ik 224 #[fD<|jn a] w (ut (hh<|lA a) w):=by
 have d:=c.len;have h:=yt c.val;refine ZA _ _ _ _ _ (fv a) d a (lA a) w fX (λb=>nN a c.val d b) λb i e=>?_;have f:w.heap.size<b.heap.size:=(lW.1 e).1;obtain⟨_,_⟩:=tZ e;have g:Lib.join (a.map (·.data.toList)) (⟨#[47]⟩:fP).data.toList=iY (a.map iQ):=Ks _;have j:fv (iY<|a.map iQ)<=65:=by
  have:(lA a).size=fv (iY<|a.map iQ):=by
   show(iY<|a.map iQ).toArray.size=_;simp
  omega
 have:=strings_Join w.heap.size 0 5 a ⟨#[47]⟩ b (λk x l=>?_) f (by omega) d (by grind)
 rwa [g]at this
 grind
def vS (i:Nat)(t:Nat×Nat):Prop:=gC i t\/t=(0,1)
theorem Mm{i:Nat}(U:2<=i):¬vS i (0,0):=by
 rintro((a|a|a)|a)
 all_goals grind
abbrev jX:=fP×Int
def uf (x:jX):iN:=[fA x.1,.int .i64 x.2]
def iC (l:List jX):iN:=l.flatMap uf
theorem Kt(l:List jX):fv (iC l)=fv l*2:=by
 induction l with
 |nil=>rfl
 |cons x b a=>unfold iC at a |-;rw[MZ,lI,a,lq];simp[uf];omega
def ZB(a b:List jX):iC (a++b)=iC a++iC b:=by simp[iC]
def Ak (x:fT×Int):jX:=(lA x.1,x.2)
def GR (N:gF)(w:fq)(sv e dr ow:Nat)(d:List jX):Prop:=
 N sv=(0,1)/\∃a c,w.heap[sv]?=fh (.cells #[ptr e,ptr dr,.map<|fh ow,fy a (fv d) c] 259 (0,0))/\w.ownsRow 0 133 2 (fy a (fv d) c) (fv d) (iC d)/\∀b,(Value.slice a (fv d) c).ownBlock=fh b->N b=(0,1)
theorem GR.moves{P:Nat×Nat->Prop}{N M}{w H}{sv e dr ow}{f:List jX}(h:GR N w sv e dr ow f)(m:fI P N M w H)(i:¬P (0,1)):GR M H sv e dr ow f:=by
 obtain⟨j,a,c,k,d,l⟩:=h;obtain⟨n,o⟩:=m.at k j i;exact⟨o,a,c,n,gg d λp q=>m.block p (gc d q) (by grind),λb g=>(m.tags b (gc d g)).trans<|l b g⟩
structure CT (tg:gF)(w:World)(s i p:Nat)(B:WB)(gM:List Ob)(g:WG)(lim:Nat)(sv dr ow:Nat)(t:LT)(a:List Ob)(L:List jX):Prop where
 inv:fZ tg w s i p B gM g lim
 Ug:GR tg w sv B.bt dr ow L
 map:∃(f:fT->Option Int) (n:Nat),jV w ow n (fun q=>(f q).map (Value.int .i64))/\∀q,IB gM (gz gM g.fl) t a f q
 tow:tg ow=(0,0)
 few:L.length<=lim
theorem CT.below{N}{w H}{g}{I}{d:List jX}(b:CT N w s i p B A g I sv dr ow t a d)(c:ju w H):CT N H s i p B A g I sv dr ow t a d:=by
 obtain⟨f,n,e,h⟩:=b.map;exact⟨b.inv.below c,b.Ug.moves (fI.fJ (P:=λ_=>False) c) id,⟨f,n,e.keep<|c.block ow e.lt,h⟩,b.tow,b.few⟩
def CT.mono{N}{w}{g}{I c:Nat}{d:List jX}(b:CT N w s i p B A g I sv dr ow t a d)(e:I<=c):CT N w s i p B A g c sv dr ow t a d:=⟨b.inv.mono e,b.Ug,b.map,b.tow,wy b.few e⟩
def jY (a:fP):Option LT->fV
 |none=>(⟨#[]⟩,0,0)
 |some c=>(a,c.kind,c.id)
def wG (e:fV):fu:=fD #[fA e.1,.int .i64 e.2.1,.int .i64 e.2.2]
def sK (A:List Ob)(fs:b6):Option LT->b6×Int×Kids
 |some (.own a)=>(fs,0,a)
 |some (.dir id)=>if(fs.ij id).2 then((fs.ij id).1,0,(fQ A id).map wl) else((fs.ij id).1,14,[])
 |_=>(fs,0,[])
theorem GU(A)(fs:b6)(a):(fs.Next (sK A fs a).1/\(sK A fs a).2=(0,li A a))\/(fs.Co (sK A fs a).1/\(sK A fs a).2=(14,[])):=by
 cases a with
 |none=>exact .inl ⟨b6.Next.refl _,fX⟩
 |some c=>
  cases c with
  |file i=>exact .inl ⟨b6.Next.refl _,fX⟩
  |held f=>exact .inl ⟨b6.Next.refl _,fX⟩
  |own g=>exact .inl ⟨b6.Next.refl _,fX⟩
  |dir id=>
   have d:sK A fs (fh<|.dir id)=if(fs.ij id).2 then((fs.ij id).1,0,(fQ A id).map wl) else((fs.ij id).1,14,[]):=fX;rw[d];rcases fs.zB id with⟨b,e,_⟩|⟨b,h⟩
   rw[lv b];exact .inl ⟨e,fX⟩
   all_goals grind
theorem mag{n}{a}(e:GM A n a)(d)(f:(jY d a).2.1=2):oQ A (jY d a):=by
 cases a with
 |none=>cases f
 |some c=>
  have b:=e c fX;refine⟨mh c,λhid=>?_⟩;cases c with
  |file id=>cases n<;>(rw[fM]at b;exact b)
  |held g=>exact absurd fX hid
  |dir id=>cases n<;>(rw[fM]at b;exact b.1)
  |own h=>exact absurd fX hid
theorem hnc(k:Sound A){t}{i}(hF:Flat A t i){n}{b}(l:GM A n b){h}(m:∀d,b=fh (.own d)->t.at A h=b)(fs)(f)(g:(jY f b).2.1=2):
  mz A i fs h (jY f b)=((sK A fs b).1,(sK A fs b).2.1,(sK A fs b).2.2.map lL):=by
 cases b with
 |none=>cases g
 |some c=>
  unfold mz;rw[km λo=>o g];cases c with
  |file id=>cases g
  |held u=>cases g
  |own d=>
   rw[lv<|show(jY f<|fh (.own d)).2.2=0 from fX,hF.od h,m d fX];rfl
  |dir id=>
   have j:=l _ fX;have p:fK A id=2:=by cases n<;>(rw[fM]at j;exact j.1)
   have hid:id≠0:=λe=>by have:=(nl (a:=A) (id:=id)<|by omega).1;omega
   have q:((fQ A id).map wl).map lL=fQ A id:=Jh λe r=>((k.2 id p).2.2 e r).2.1;rw[km<|show(jY f<|fh (.dir id)).2.2≠0 from hid];show(if(fs.ij id).2 then _ else _)=_;have s:sK A fs (fh<|.dir id)=if(fs.ij id).2 then((fs.ij id).1,0,(fQ A id).map wl) else((fs.ij id).1,14,[]):=fX;rw[s];split;simp only[q];rfl;rfl
def IH:Option LT->Int
 |none=>0
 |some c=>c.kind
def Ku:Option LT->Int
 |none=>0
 |some c=>c.id
def hnf (a:fT->Option Int)(b:fT)(c:LT):Int:=if c.id≠0 then c.id else(a b).getD 0
def BQ (a:Option LT):Prop:=∀c,a=fh c->(∃i,c=.file i)\/∃i,c=.dir i
def DM (a:fP)(is T:Bool):List jX:=if is then(if T then [(a,2)]else [(a,1)])else if T then [(a,3)]else []
def Kv{n:Nat}(a:n<=5){c}(b:fM A n c):fM A 5 c:=LP n 5 a b
theorem hni{a l:List Ob}(d:a=A++l)(k:Exact a)(m:mL a)(g:Sound A){t c u:LT}{e}{f}(n:IB A fc t a e f)(o:t.at A f=fh c)(p:fM A 5 c)(h:fM A 5 u)(q:(∃i,u=.file i)\/∃i,u=.dir i)(r:c.kind=u.kind):
  hnf e f c=u.id↔∀y,xc A fc c y=xc A qQ u y:=by
 have s:fM a 5 u:=by rw[d];exact jo l 5 _ h
 have hsu:∀y,xc a qQ u y=xc A qQ u y:=λy=>by rw[d];exact mZ g l qQ y 5 _ h
 have v:∀id,fM a 5 (kZ c.kind id)->uQ a qQ (kZ c.kind id) A fc c->(id=u.id↔∀y,xc A fc c y=xc A qQ u y):=λid w x=>by
  rw[VX k m w x s q r];exact⟨λb y=>(b y).trans<|hsu y,λb y=>(b y).trans (hsu y).symm⟩
 unfold hnf;by_cases hid:c.id=0;rw[km λb=>b hid];have⟨id,_⟩:=n c o hid
 grind
 rw[lv hid];have j:(∃i,c=.file i)\/∃i,c=.dir i:=by
  cases c with
  |file i=>exact .inl ⟨i,fX⟩
  |dir i=>exact .inr ⟨i,fX⟩
  |held e=>exact absurd fX hid
  |own B=>exact absurd fX hid
 have z:kZ c.kind c.id=c:=by rcases j with⟨i,rfl⟩|⟨i,rfl⟩<;>rfl
 refine v c.id (by grind [jo]) λy=>?_;rw[z,d,mZ g l qQ y 5 _ p];exact uS j qQ fc y
theorem hnk{b T}(d:∀y,Hk A fc b y=Hk A tu T y):IH b=IH T:=by
 have a:=d [];rcases b with _|c
 cases T with
 |none=>rfl
 |some u=>simp only[Hk,Option.bind_none,wd,px]at a;cases a
 cases T with
 |none=>simp only[Hk,Option.bind_none,wd,px]at a;cases a
 |some u=>exact lia<|uri (show xc A fc c []=xc A tu u []from a)
def hnm{n}{b}{a T}(c:∀y,Hk A fc a y=Hk A tu T y):cmpL A fc tu n b a T=[]:=by
 cases n<;>rw[cmpL,lv c]
theorem yJ(b:Sound A){a}(c:GM A 0 a):li A a=[]:=by
 rcases d:li A a with _|⟨x,f⟩
 rfl;obtain⟨k,e,_⟩:=(mR b c).2 x (by grind);omega
def hnn(c:Sound A){n}{b}{a T}(e:GM A n a)(f:GM A n T)(d:¬ ∀y,Hk A fc a y=Hk A tu T y):
  cmpL A fc tu n b a T=zv b (jC<|Hk A fc a []) (jC<|Hk A tu T [])++((li A a).flatMap (λx=>cmpL A fc tu (n-1) (b++[x.1]) (fh x.2)<|jp (li A T) x.1)++((li A T).filter λx=>(jp (li A a) x.1).isNone).flatMap λx=>cmpL A fc tu (n-1) (b++[x.1]) fj<|fh x.2):=by
 cases n with
 |zero=>rw[cmpL,km d,yJ c e,yJ c f];simp
 |succ n=>rw[cmpL,km d];rfl
def Kw(a):(jC<|Hk A fc a []).isSome=decide (IH a=1):=by
 rcases a with _|c
 rfl;show(jC<|xc A fc c []).isSome=_;rw[px];cases c<;>rfl
def mix(a)(x y:Option fP):(zv a x y).map Ak=DM (lA a) x.isSome y.isSome:=by
 cases x<;>cases y<;>rfl
def Uh(a)(b T):(zv a (jC<|Hk A fc b [])<|jC (Hk A tu T [])).map Ak=DM (lA a) (decide (IH b=1)) (decide (IH T=1)):=by
 rw[mix,Kw,Kw]
theorem DN{a c:Type}(p:a->Bool)(b:a->List c)(l:List a){k:Nat}(d:k<fv l):((l.take<|k+1).filter p).flatMap b=((l.take k).filter p).flatMap b++(if p l[k]then b l[k]else []):=by
 grind [vk]
theorem ZC{b c:Type}(a:b->List c)(l:List b){k:Nat}(d:k<fv l):(l.take<|k+1).flatMap a=(l.take k).flatMap a++a l[k]:=by
 grind [vk]
theorem rB(d:Sound A){n}{a}(e:GM A n a):fv (li A a)<=16:=by
 rcases a with _|c
 exact zt _;unfold li;cases b:kids A c with
 |none=>simp[b]
 |some Y=>simp only[wd,b,sA];exact(lO d (e c fX) b).2.1
theorem tJ(e:Sound A){n}{b}(f:GM A n b):∀x∈li A b,fN x.1=fm:=by
 rcases b with _|c
 intro x a;cases a;unfold li;cases d:kids A c with
 |none=>intro x a;simp[d]at a
 |some Y=>simp only[wd,d,sA];exact λx a=>((lO e (f c fX) d).2.2 x a).1
theorem DO{a}(d:BQ a)(x):BQ (jp (li A a) x):=by
 intro c b;rcases a with _|u
 cases b;rcases d u rfl with⟨i,rfl⟩|⟨i,rfl⟩
 cases b;have f:=mS b;obtain⟨e,_,g⟩:=ja.1<|show(x,c)∈(fQ A i).map wl from f
 grind [ltOf,wl]
theorem VY{t:LT}{d}{b:Option LT}(e:∀c,b=fh c->t.at A d=fh c){x}{c:LT}(a:jp (li A b) x=fh c):t.at A (d++[x])=fh c:=by
 cases b with
 |none=>cases a
 |some u=>
  rw[lx,e u fX,wd,lh];unfold li at a;rcases f:kids A u with _|Y
  simp only[wd,f,WE]at a;cases a
  grind [oX]
def cB:Nat->Nat
 |0=>3
 |n+1=>3+32*cB n
def hnt(n:Nat):3<=cB n:=by cases n<;>rw[cB]<;>omega
def VZ (a:List fV)(n:fP):fV:=match qG a n with
 |none=>(⟨#[]⟩,0,0)
 |some c=>(n,c)
theorem Ui(d:ig)(f g)(n)(k:Int)(w)
  (h:∀a,ju w a->ik 133 #[fy d f g,hh n] a (ut (fC #[fY k,fE fo]) a)):
  ik 206 #[fy d f g,hh n] w (ut (fD #[hh kq,fY 0,fY 0]) w):=by
 have b:ju w (w.k #[hh ByteArray.empty,fY 0,fY 0] 96):=(mi _ _).alloc (lw _) _;have i:fe _:=h _ b;have j:fe _:=b;clear h b;go_enter func206,ntmps206;go_wp2_with fail;refine RK i.o ?_;rintro e O ⟨rfl,c⟩;obtain⟨l,o⟩:=kw c;have p:w.heap.size<O.heap.size:=np (by simp) c.size;have m:ju w O:=gS j.o c;clear i j;go_wp2;exact ni (v:=fD #[hh kq,fY 0,fY 0]) (by simp[results,results206,go_sem,l]) fX ⟨fX,by
  repeat(first|exact m|(refine wB ?_ (by simp) _))⟩
theorem Uj(a b g k:Nat)(n)(y:fV)(w:fq)(p:k<b)(q:b<=16)(r:a<w.heap.size)
  (l:w.c a (k*3)=fh (hh y.1)/\w.c a (k*3+1)=fh (fY y.2.1)/\w.c a (k*3+2)=fh (fY y.2.2))
  (h:∀c,ju w c->ik 133 #[my a 0 b g,hh n] c (ut (fC #[fY (k:Int),fE fm]) c)):
  ik 206 #[my a 0 b g,hh n] w (ut (fD #[hh y.1,fY y.2.1,fY y.2.2]) w):=by
 obtain⟨s,t,u⟩:=l;have d:ju w (w.k #[hh ByteArray.empty,fY 0,fY 0] 96):=(mi _ _).alloc (lw _) _;have i:fe _:=h _ d;have j:fe _:=d;clear h d;go_enter func206,ntmps206;go_wp2_with fail;refine RK i.o ?_;rintro e O ⟨rfl,f⟩;obtain⟨m,x⟩:=kw f;have z:w.heap.size<O.heap.size:=np (by simp) f.size;have o:ju w O:=gS j.o f;clear i j;go_wp2;exact ni (v:=fD #[hh y.1,fY y.2.1,fY y.2.2]) (by simp[results,results206,go_sem,m]) fX ⟨fX,by
  repeat(first|exact o|(refine wB ?_ (by simp) _))⟩
theorem ZE{w:fq}{h}{a:List fV}(d:w.ownsRow 0 96 3 h (fv a) (flat a))(n)(o:fO a)(p:fv a<=16):
  ik 206 #[h,hh n] w (ut (wG<|VZ a n) w):=by
 have i:∀j,ju w j->ik 133 #[h,hh n] j (ut (fC #[fY (ub a n:Nat),fE<|kB a n]) j):=λj r=>
  iG (gg d λs t=>r.block s<|gc d t) n o p
 have f:=nj (n:=n) o;unfold VZ;cases b:kB a n with
 |false=>
  rw[b]at i f;rw[f];obtain⟨k,l,g,rfl⟩:∃k l g,h=fy k l g:=by
   rcases d.2 with⟨e,_⟩|⟨A,B,_,e,_⟩
   all_goals grind
  exact Ui k l g n _ w i
 |true=>
  rw[b]at i f;unfold kB at b;cases m:a[ub a n]? with
  |none=>rw[m]at b;cases b
  |some y=>
   rw[m]at b f;obtain⟨q,u⟩:=wH.1 m;obtain⟨v,g,rfl⟩:=hZ d (by omega);have x:y.1=n:=by simpa using b
   obtain⟨c0,c1,c2⟩:=lr (off:=0) (ks d) q;rw[iO]at c0 c1 c2;rw[u]at c0 c1 c2
   have:=Uj v (fv a) g (ub a n) n y w q p (gc d fX) ⟨c0,c1,c2⟩ i
   have z:(match qG a n with
    |none=>((kq,0,0):fV)
    |some c=>(n,c))=y:=by
    rw[f,lv fX,oV];show(n,y.2)=y;rw[<-x]
   rw[z];exact this
theorem Uk(sv)(a b c d Z e)(k id:Int)(w:fq)(f:k≠2):
  ik 205 #[ie sv,fD<|ml a b c d Z,fD #[hh e,fY k,fY id]] w (ut (fC #[fy fj 0 0,fY 0]) w):=by
 have h:(k==2)=fo:=by simpa using f
 have g:fe _:=(rj w (.cells (ml a b c d Z) 147)<|.cells #[hh e,fY k,fY id] 96).1;go_enter func205,ntmps205;go_wp2;go_ret2;exact⟨fX,g.o⟩
theorem Ul(sv j:Nat)(c d f g Z h)(id k:Int)(l:fu->fq->fq->Prop)(w:fq)(r:sv<w.heap.size)(c0:w.c sv 0=fh (ie j))
  (m:∀b,ju w b->ik 187 #[ie j,fD<|ml c d f g Z,fD #[hh h,fY 2,fY id]] b λe H=>∃a,e=pD #[a,fY k]/\l a b H):
  ik 205 #[ie sv,fD<|ml c d f g Z,fD #[hh h,fY 2,fY id]] w λe H=>∃a b,e=pD #[a,fY k]/\ju w b/\l a b H:=by
 obtain⟨n,i⟩:=rj w (.cells (ml c d f g Z) 147)<|.cells #[hh h,fY 2,fY id] 96;have o:fe _:=m _ i;have p:fe _:=i;clear m n i;go_enter func205,ntmps205;go_wp2
 go_region_with(go_at_call 187;refine RK o.o ?_;rintro e O ⟨a,rfl,q⟩)
 all_goals
  go_wp2;go_ret2;exact⟨a,_,fX,p.o,q⟩
theorem Mn(w:fq)(c0 c1:fu)(t:lV)(n:Nat)(c:n=w.heap.size):∀b u,[c0,c1][b]?=fh u->(w.k #[c0,c1] t).cell? (((ii n 0):Addr).add b)=fh u:=by
 subst c;intro b u a
 match b,a with
 |0,a=>simpa [Addr.add]using a
 |1,a=>simpa [Addr.add]using a
 |b+2,a=>simp at a
def Sym (w H:fq)(sv:Nat)(a:ig)(n c:Nat)(e Y:iN):Prop:=
 ∃b R d O,Below w.heap.size w d/\O.ownsRow 0 133 2 (fy (fh ⟨b,0,fj⟩) (n+1) R) (n+1) (e++Y)/\d.grownBy O (Value.slice a n c).ownBlock/\((fh b:Option Nat)=(Value.slice a n c).ownBlock\/b=d.heap.size)/\H=O.setCell ⟨sv,3,fj⟩ (fy (fh ⟨b,0,fj⟩) (n+1) R)
theorem nW{w b O}{c:Option Nat}(d:ju w b)(f:b.grownBy O c){p:Nat}(e:p<w.heap.size)(g:fh p≠c)(a):O.c p a=w.c p a/\O.frozen? (ii p a)=w.frozen? (ii p a):=by
 have h:=(f.block p (np e d.size) g).trans<|d.block p e
 grind [wJ,Rk]
theorem ZF(sv:Nat)(a:ig)(n c)(l)(x y z A Z b)(is T:Bool)(q:Int)(Y:(is=fm/\T=fm/\q=2)\/(is=fm/\T=fo/\q=1)\/(is=fo/\T=fm/\q=3))(w:fq)(f:sv<w.heap.size)(c3:w.c sv 3=fh (fy a n c))(f3:w.frozen? (ii sv 3)=fo)
  (J:w.ownsRow 0 133 2 (fy a n c) n l)(K:fh sv≠(Value.slice a n c).ownBlock)(aa:n<1099511627776)
  (L:∀k,ik 224 #[fD<|ml x y z A Z] k<|ut (hh b) k):
  ik 204 #[ie sv,fD<|ml x y z A Z,fE is,fE T] w λe H=>e=pD #[]/\Sym w H sv a n c l [hh b,fY q]:=by
 obtain⟨B,U,C,D,E⟩:=kC dep;have M:ju w (w.k (ml x y z A Z) 147).drew:=il<|(mi _ _).alloc (lw _) _;have F:fe (∀u∈[Value.string b,fY q],u.oneCell'=fm):=by intro u N;simp at N;rcases N with rfl|rfl<;>rfl
 have m:fe (w.ownsRow 0 133 2 (fy a n c) n l):=J;have o:fe (fh sv≠(Value.slice a n c).ownBlock):=K;have G:fe _:=M;have I:fe _:=L;have d3:∀k,ju w k->k.c sv 3=fh (fy a n c)/\k.frozen? (ii sv 3)=fo:=λk P=>⟨(P.cell (p:=(ii sv 3)) f).trans c3,by rw[Rk (a:=(ii sv 3))<|P.block sv f];exact f3⟩;have HD3:fe _:=d3;clear J K M L d3;rcases Y with⟨rfl,rfl,rfl⟩|⟨rfl,rfl,rfl⟩|⟨rfl,rfl,rfl⟩
 ·go_enter func204,hYs
  go_wp2
  go_region_law(first
   |(refine pu fX (.tmp 22) (.tmp 27) 121 fX 0 133 B _ 2 24 rlk U C D E fX (by decide) (fy a n c) n l (by simp[Act.eval]) (rE r.o<|.cells #[hh b,fY 2] 133) (ii wt.heap.size 0) 1 1 [hh b,fY 2] (by simp[Act.eval]) fX (Mn wt (hh b) (fY 2) 133 wt.heap.size fX) F.o (by unfold maxLen;omega) (by omega) (zt _) ?_;intro Q O j g s;obtain⟨h,R,rfl⟩:=hZ j (by omega);have i:=gS d.o<|(mi wt.heap.size wt).alloc (lw _) (.cells #[hh b,fY 2] 133);have S:=(nW i g f o.o 3).1.trans c3;have V:=(nW i g f o.o 3).2.trans f3)
   |(go_simp;go_at_call 224;refine RK (I.o _) ?_;rintro e wt ⟨rfl,t⟩;have d:fe _:=gS G.o t;have W:=(HD3.o _ d.o).1;have r:fe _:=gg m.o λh v=>d.o.block h<|gc m.o v;have X:sv<wt.heap.size:=np f d.o.size))
  all_goals
   go_wp2;go_end0;exact⟨fX,h,R,_,O,i,j,g,by simpa [Value.ownBlock]using s,fX⟩
 ·go_enter func204,hYs
  go_wp2
  go_region_law(first
   |(refine pu fX (.tmp 22) (.tmp 27) 121 fX 0 133 B _ 2 24 rlk U C D E fX (by decide) (fy a n c) n l (by simp[Act.eval]) (rE r.o<|.cells #[hh b,fY 1] 133) (ii wt.heap.size 0) 1 1 [hh b,fY 1] (by simp[Act.eval]) fX (Mn wt (hh b) (fY 1) 133 wt.heap.size fX) F.o (by unfold maxLen;omega) (by omega) (zt _) ?_;intro Q O j g s;obtain⟨h,R,rfl⟩:=hZ j (by omega);have i:=gS d.o<|(mi wt.heap.size wt).alloc (lw _) (.cells #[hh b,fY 1] 133);have S:=(nW i g f o.o 3).1.trans c3;have V:=(nW i g f o.o 3).2.trans f3)
   |(go_simp;go_at_call 224;refine RK (I.o _) ?_;rintro e wt ⟨rfl,t⟩;have d:fe _:=gS G.o t;have W:=(HD3.o _ d.o).1;have r:fe _:=gg m.o λh v=>d.o.block h<|gc m.o v;have X:sv<wt.heap.size:=np f d.o.size))
  all_goals
   go_wp2;go_end0;exact⟨fX,h,R,_,O,i,j,g,by simpa [Value.ownBlock]using s,fX⟩
 go_enter func204,hYs;go_wp2
 go_region_law(first
  |(refine pu fX (.tmp 22) (.tmp 27) 121 fX 0 133 B _ 2 24 rlk U C D E fX (by decide) (fy a n c) n l (by simp[Act.eval]) (rE r.o<|.cells #[hh b,fY 3] 133) (ii wt.heap.size 0) 1 1 [hh b,fY 3] (by simp[Act.eval]) fX (Mn wt (hh b) (fY 3) 133 wt.heap.size fX) F.o (by unfold maxLen;omega) (by omega) (zt _) ?_;intro Q O j g s;obtain⟨h,R,rfl⟩:=hZ j (by omega);have i:=gS d.o<|(mi wt.heap.size wt).alloc (lw _) (.cells #[hh b,fY 3] 133);have S:=(nW i g f o.o 3).1.trans c3;have V:=(nW i g f o.o 3).2.trans f3)
  |(go_simp;go_at_call 224;refine RK (I.o _) ?_;rintro e wt ⟨rfl,t⟩;have d:fe _:=gS G.o t;have W:=(HD3.o _ d.o).1;have r:fe _:=gg m.o λh v=>d.o.block h<|gc m.o v;have X:sv<wt.heap.size:=np f d.o.size))
 all_goals
  go_wp2;go_end0;exact⟨fX,h,R,_,O,i,j,g,by simpa [Value.ownBlock]using s,fX⟩
def ZG(sv)(a b c d Z)(w:fq):
  ik 204 #[ie sv,fD<|ml a b c d Z,fE fo,fE fo] w (ut (fC #[]) w):=by
 have e:fe (ju w<|w.k (ml a b c d Z) 147):=(mi _ _).alloc (lw _) _;go_enter func204,hYs;go_wp2;exact ni (v:=fC #[]) (by simp[results,results204,go_sem]) fX ⟨fX,e.o⟩
