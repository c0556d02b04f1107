/- A part of the proof. -/
import Derived.Test.YtlgidcmmgohagaaGreatComM11
set_option linter.all false
namespace Go.Proofs.YtlgidcmmgohagaaGreat
open Go.RowKit Go.Sort Go.Shelf Go.Proofs.Tryz
open Go.Value renaming slice->fy,string->fA,pointer->fB,tuple->fC,agg->fD,bool->fE
open Go.Ending renaming returned->fF
open Option renaming some->fh,none->fj
open Bool renaming true->fm,false->fo
open Go renaming World->fq,Value->fu
open List renaming length->fv,reverse->fx
open Go.RowKit renaming Hid->fe
set_option maxRecDepth 100000
set_option maxHeartbeats 0
variable {P:Nat×Nat->Prop}{b c i j k I jf n p s:Nat}{v:fu}{l:fT}{od:fT->Option (List fV)}{kD kF:Int->Bool}{ft:kI}{es:List fV}{w H O:fq}{r:Option Nat}{J:fT->fu}{o1:Obj}{A:List Ob}{brk:Bool}{f:fT->Option fu}{t:Nat×Nat}{id:Int}{fl:Nat->Option (Int×fP)}{got:List Int}{of:fT->Option Nat}
variable {w:fq}{s p I i:Nat}{A:List Ob}{got:List Int}{brk:Bool}
def iU (fg a n:Int):Int:=if(bits BinOp.and IntKind.i64 fg 32 != 0)=fm then n else a
theorem rZ{d:fP}(a:1<=d.size):(d.toList==[])=fo:=by
 grind [Au,Cg]
theorem uG(a)(fg b n:Int)(w:fq)(c1:w.c a 1=fh (fY fg))(c2:w.c a 2=fh (fY b)):
  ik 180 #[ie a,fY n] w (PP (fY<|iU fg b n) w):=by
 unfold iU;cases c:(bits BinOp.and IntKind.i64 fg 32 != 0) with
 |true=>exact XR a fg b n w c1 c
 |false=>exact gtr a fg b n w c1 c2 c
def SH(a)(fg:Int)(w:fq)(c1:w.c a 1=fh (fY fg))(b:(bits BinOp.and IntKind.i64 fg 2==0)=fo):
  ik 123 #[ie a,hh kq] w (PP (fY 0) w):=by
 go_enter func123,ntmps123;go_wp2;go_ret;exact⟨fX,fX⟩
theorem hba(a f)(fg b c:Int)(j d:fP)(h k:fq->Prop)(w:fq)(c0:w.c a 0=fh (ie f))(c1:w.c a 1=fh (fY fg))(c2:w.c a 2=fh (fY b))
  (C:(bits BinOp.and IntKind.i64 fg 2==0)=fo)(v:1<=d.size)(x:0<=iU fg b 0)(y:iU fg b 0+d.size<=256)(z:iU fg b j.size=c)(D:0<=c)(E:c+d.size<=256)
  (A:ik 181 #[ie f] w λe H=>e=pD #[hh j,fY 0]/\h H)
  (i:∀O,h O->O.c a 0=fh (ie f)/\O.c a 1=fh (fY fg)/\O.c a 2=fh (fY b))
  (n:∀O,h O->ik 182 #[ie f,fY c,hh d] O λe H=>e=fF (fY 0)/\k H)
  (o:∀g,k g->a<g.heap.size/\g.c a 2=fh (fY b)/\g.frozen? (ii a 2)=fo):
  ik 123 #[ie a,hh d] w λe H=>e=fF (fY 0)/\∃g,k g/\H=g.setCell (ii a 2) (fY<|c+d.size):=by
 have p:=uG a fg b 0 w c1 c2;have l:=λO(q:h O)=>uG a fg b j.size O (i O q).2.1 (i O q).2.2;simp only[z]at l;generalize iU fg b 0=r at p x y;have F:=rZ v;have G:IntKind.i64.wrap (r+d.size)=r+d.size:=by rw[Cb]<;>omega
 have I:IntKind.i64.wrap (c+d.size)=c+d.size:=by rw[Cb]<;>omega
 have B:fe _:=i
 change fe _ at n o l
 clear i;go_enter func123,ntmps123;go_wp2_with(first
  |(go_at_call_of 180 (Value.int .i64 0);apply p.still)
  |(go_at_call 181;refine A.via λO m=>?_;have⟨J,K,L⟩:=B O m;have s:fe _:=m;clear m)
  |(go_at_call 180;refine(l _ s).still ?_)
  |(go_at_call 182;refine(n _ s).via λt u=>?_;have⟨M,N,P⟩:=o t u))
 go_ret;exact⟨fX,t,u,fX⟩
def nO (w:fq)(b:Nat)(a:Nat->Option Nat):Prop:=b<w.heap.size/\(∀k,k<8->w.cell? ⟨b,1+k,fj⟩=fh (fB ((a k).map λx=>⟨x,0,fj⟩)))/\∀c,w.frozen? ⟨b,c,fj⟩=fo
def JD(x)(a):(binOp .eql 86 (fB fj)<|ie x).run prog a=.ok (fE fo) a:=by kernel_rfl
theorem SI(b k:Nat)(a:Nat->Option Nat)(w)(l:nO w b a)(o:k<8)(c:a k=fj)(d:∀j,j<k->a j≠fj):
  ik 176 #[my b 1 8 8,fB fj] w (PP (fY (k:Int)) w):=by
 have⟨p,e,_⟩:=l
 change fe _ at e d c
 go_enter func176,ntmps176;go_wp2
 go_loopw [8] (λi wr=>∃j:Nat,j<=k/\i=.int .i64 (j:Int)/\wr=w) (λi _=>k-(intOf i).toNat)
 case atStart=>exact⟨0,zt _,rfl,rfl⟩
 case round=>
  obtain⟨j,q,rfl,rfl⟩:=hrel;have m:j<8:=by omega
  have f:=e j m;by_cases n:j=k
  ·subst n
   rw[c.o,hQa]at f;go_wp2;go_ret;exact⟨fX,fX⟩
  cases g:a j with
  |none=>exact absurd g<|d j (by omega)
  |some x=>
   rw[g,oV]at f;have r:∀h,(binOp .eql 86 (fB fj)<|ie x).run prog h=.ok (fE fo) h:=JD x;go_wp2;go_roundw
   case rel=>exact⟨j+1,by omega,by go_num,trivial⟩
   case measure=>simp[intOf];omega
def JE(b k:Nat)(a:Nat->Option Nat)(w)(c:nO w b a)(f:k<8)(d:a k=fj)(e:∀j,j<k->a j≠fj):
  ik 119 #[fB<|fh (ii b 1)] w (PP (fC #[fY (k:Int),fY 0]) w):=by
 have U:=SI b k a w c f d e;clear c d e;go_enter func119,ntmps119;go_wp2_with(go_at_call 176;refine U.still ?_);go_ret2;exact⟨fX,fX⟩
def XW(b k f:Nat)(fg:Int)(x:fu)(w:fq)(a:b<w.heap.size)(c:w.c b (1+k)=fh x)(d:w.frozen? (ii b<|1+k)=fo)(g:k<8):
  ik 121 #[fB<|fh (ii b 1),fY (k:Int),ie f,fY fg] w λe H=>e=pD #[]/\H=(w.setCell (ii b<|1+k)<|ie w.heap.size).k #[ie f,fY fg,fY 0] 277:=by
 go_enter func121,ntmps121;go_wp2;go_end0;exact⟨fX,fX⟩
def xw(b k x:Nat)(w:fq)(a:w.c b (1+k)=fh (ie x))(c:k<8):
  ik 122 #[fB<|fh (ii b 1),fY (k:Int)] w (PP (fC #[ie x,fY 0]) w):=by
 go_enter func122,ntmps122;go_wp2;go_ret2;exact⟨fX,fX⟩
def OH(b k x:Nat)(w:fq)(d:b<w.heap.size)(a:w.c b (1+k)=fh (ie x))(f:w.frozen? (ii b<|1+k)=fo)(c:k<8):
  ik 124 #[fB<|fh (ii b 1),fY (k:Int)] w λe H=>e=fF (fY 0)/\H=w.setCell (ii b<|1+k) (fB fj):=by
 go_enter func124,ntmps124;go_wp2_with(go_at_call 122;refine(xw b k x w a c).still ?_);go_ret;exact⟨fX,fX⟩
def lA (l:fT):fP:=⟨(iY<|l.map iQ).toArray⟩
theorem xx(s)(w:fq):ik 215 #[hh s,fA ⟨#[47]⟩] w (PP (fY<|Lib.indexByte s.data.toList 47) w):=by
 by_cases b:s=⟨#[47]⟩
 ·subst b
  go_enter func215,ntmps215;go_wp2;go_ret;exact⟨fX,fX⟩
 have e:([47]==s.toList)=fo:=by
  cases d:([47]==s.toList) with
  |false=>rfl
  |true=>
   have c:[47]=s.toList:=by simpa using d
   rw[Au]at c;exact absurd (bytes_inj (a:=⟨#[47]⟩) c).symm b
 have U:=stringslite_IndexByte s 47 w;rw[show((47:Int).toNat.toUInt8)=47 from fX]at U;generalize Lib.indexByte s.data.toList 47=k at U |-;go_enter func215,ntmps215;go_wp2_with(go_at_call 216;refine U.still ?_);go_ret;exact⟨fX,fX⟩
theorem JF(s:fP)(w:fq)(a:Lib.indexByte s.data.toList 47=-1):ik 184 #[hh s,fA ⟨#[47]⟩] w (PP (fC #[hh s,hh kq,fE fo]) w):=by
 have U:=xx s w;rw[a]at U;go_enter func184,ntmps184;go_wp2_with(go_at_call 215;refine U.still ?_);exact ni (v:=fC #[hh s,hh kq,fE fo]) (by simp[results,results184,go_sem]) fX ⟨fX,fX⟩
theorem XX(s:fP)(k:Nat)(w:fq)(a:Lib.indexByte s.data.toList 47=(k:Int))(b:k<s.size)(c:s.size<=1000):ik 184 #[hh s,fA ⟨#[47]⟩] w (ut (fC #[hh<|s.extract 0 k,hh<|s.extract (k+1) s.size,fE fm]) w):=by
 have U:=xx s w;rw[a]at U;have d:IntKind.i64.wrap ((k:Int)+1)=(k:Int)+1:=by rw[Cb]<;>omega
 go_enter func184,ntmps184;go_wp2_with(go_at_call 215;refine U.still ?_)
 go_region
 all_goals
  go_wp2;exact ni (v:=fC #[hh<|s.extract 0 k,hh<|s.extract (k+1) s.size,fE fm]) (by simp[results,results184,go_sem]) fX ⟨fX,il<|mi _ _⟩
theorem Bl(s a b)(c:Bool)(w:fq)(d:ik 184 #[hh s,fA ⟨#[47]⟩] w (ut (fC #[hh a,hh b,fE c]) w)):
  ik 128 #[hh s,fA ⟨#[47]⟩] w (ut (fC #[hh a,hh b,fE c]) w):=by
 go_enter func128,ntmps128;go_wp2_with(go_at_call 184;refine d.via λO e=>?_);exact ni (v:=fC #[hh a,hh b,fE c]) (by simp[results,results128,go_sem]) fX ⟨fX,e⟩
theorem index_first:∀(a b:List UInt8),(∀c∈a,c≠47)->Lib.indexByte (a++47::b) 47=(fv a:Int)
 |[],b,_=>by simp[Lib.indexByte]
 |c::r,b,e=>by
  have g:=index_first r b λd f=>e d<|wq _ f
  grind [oK,Lib.indexByte]
theorem vI:∀(a:List UInt8),(∀c∈a,c≠47)->Lib.indexByte a 47=-1
 |[],_=>rfl
 |c::r,b=>by
  have f:=vI r λd e=>b d<|wq _ e
  grind [oK,Lib.indexByte]
theorem JG{x}(a:fN x=fm):∀c∈iQ x,c≠47:=by
 have d:Lib.indexByte (iQ x) 47<0:=by
  unfold fN at a;simp only[EH,Hw]at a;exact a.2
 have f:=Lib.indexByte_ge (iQ x) 47;intro c b e;obtain⟨k,_⟩:=rD b;exact Lib.indexByte_none (l:=iQ x) (c:=47) (by omega) k (by grind)
theorem pM(x:fP){r:fT}(a:r≠[]):iQ (lA (x::r))=iQ x++47::iQ (lA r):=by
 show(iY<|(x::r).map iQ).toArray.toList=_;rw[lM,vz _ (by simpa using a)];rfl
def uH(x:fP):lA [x]=x:=iy fX
def yq:lA []=kq:=fX
def sZ(s:fP)(a b):iQ (s.extract a b)=((iQ s).take b).drop a:=by
 unfold iQ;simp[ByteArray.data_extract,List.drop_take]
theorem jps(x)(r:fT)(c:fN x=fm)(f:(lA (x::r)).size<=1000)(w:fq):
  ik 128 #[hh<|lA (x::r),fA ⟨#[47]⟩] w (ut (fC #[hh x,hh<|lA r,fE<|!r.isEmpty]) w):=by
 rcases r with _|⟨y,t⟩
 rw[uH,yq];exact Bl _ _ _ _ w ((JF x w<|vI _ (JG c)).mono λe H⟨a,b⟩=>⟨a,by rw[b];exact mi _ _⟩);have a:=pM x (r:=y::t) (by simp);have b:Lib.indexByte (iQ<|lA (x::y::t)) 47=(fv (iQ x):Int):=by rw[a];exact index_first _ _<|JG c
 have i:(lA (x::y::t)).size=fv (iQ x)+1+fv (iQ<|lA (y::t)):=by rw[<-Kd,a,lI,lq];omega
 have d:=XX (lA (x::y::t)) (fv<|iQ x) w b (by omega) f;have g:(lA (x::y::t)).extract 0 (fv<|iQ x)=x:=iy (by rw[sZ,a,List.take_left,Ce]);have h:(lA (x::y::t)).extract (fv (iQ x)+1) (lA (x::y::t)).size=lA (y::t):=iy (by
  rw[sZ,oJ (by grind),a,show iQ x++47::iQ (lA (y::t))=(iQ x++[47])++iQ (lA (y::t)) by simp];exact crc<|by simp)
 rw[g,h]at d;exact Bl _ _ _ _ w d
theorem yt:∀{l:fT},fL l->(lA l).size<=13*fv l
 |[],_=>by simp[yq,ByteArray.size]
 |[x],a=>by
  rw[uH]
  have:=(xp<|a x (by simp)).2
  simp
  omega
 |x::y::t,a=>by
  have c:=pM x (r:=y::t)<|by simp
  have d:=(xp<|a x (by simp)).2
  have e:=yt (l:=y::t) λz b=>a z (by simp[b])
  grind [lA,iQ,Kd,lI,lq]
def gN (w:fq)(b:Nat)(l:fT):Prop:=b<w.heap.size/\∀k,k<5->w.cell? ⟨b,k,fj⟩=fh (fA<|l.getD k ⟨#[]⟩)/\w.frozen? ⟨b,k,fj⟩=fo
theorem gN.keep(a:gN w b l)(c:ju w H):gN H b l:=
 ⟨np a.1 c.size,λk d=>⟨((kw c).1 b k a.1).trans (a.2 k d).1,((kw c).2 b k a.1).trans (a.2 k d).2⟩⟩
theorem gN.five(a:gN w b l):(w.c b 0=fh (hh<|l.getD 0 kq)/\w.c b 1=fh (hh<|l.getD 1 kq)/\w.c b 2=fh (hh<|l.getD 2 kq)/\w.c b 3=fh (hh<|l.getD 3 kq)/\w.c b 4=fh (hh<|l.getD 4 kq))/\∀k,k<5->w.frozen? (ii b k)=fo:=
 ⟨⟨(a.2 0<|by omega).1,(a.2 1<|by omega).1,(a.2 2<|by omega).1,(a.2 3<|by omega).1,(a.2 4<|by omega).1⟩,λk c=>(a.2 k c).2⟩
def VA(a:b≠c\/j≠k):((ii b j):Addr)≠(ii c k):=λe=>by
 simp only[Addr.mk.injEq,Eg]at e
 rcases a with a|a
 exact a e.1
 exact a e.2
theorem gN.put{l m:fT}(a:gN w b l)(d:∀k,k<5->k≠j->m.getD k kq=l.getD k kq)(g:j<5):gN (w.setCell (ii b j)<|hh (m.getD j kq)) b m:=by
 refine⟨by simpa using a.1,λk c=>⟨?_,by rw[sig];exact(a.2 k c).2⟩⟩;by_cases e:k=j;subst e;exact World.cell?_setCell_same _ _ _ (a.2 k c).1;rw[rlv _ _ _ _<|VA (.inr λf=>e f.symm),d k c e];exact(a.2 k c).1
theorem gN.set(a:gN w b (l.take j))(c:j<5):gN (w.setCell (ii b j)<|hh (l.getD j kq)) b (l.take<|j+1):=by
 have:=a.put (m:=l.take<|j+1) (j:=j) (λk d e=>?_) c
 all_goals grind
def gN.over(a:gN w b l)(c:j<5):gN (w.setCell (ii b j)<|hh (l.getD j kq)) b l:=a.put (λ_ _ _=>rfl) c
theorem gN.other(a:gN w b l)(e:c≠b):gN (w.setCell (ii c j) v) b l:=
 ⟨by simpa using a.1,λk d=>⟨by rw[rlv _ _ _ _<|VA (.inl e)];exact(a.2 k d).1,by rw[sig];exact(a.2 k d).2⟩⟩
def SJ(a:k<5):k=0\/k=1\/k=2\/k=3\/k=4:=by omega
theorem gN.of_block(a:w.heap[b]?=fh (.cells (ml kq kq kq kq kq) 147 (0,0))):gN w b []:=by
 refine⟨(lW.1 a).1,λk c=>?_⟩;rcases SJ c with rfl|rfl|rfl|rfl|rfl<;>simp[World.cell?,World.frozen?,a]
def JH(w:fq):gN ((w.k (ml kq kq kq kq kq) 147).k (ml kq kq kq kq kq) 147) w.heap.size []:=.of_block<|Rq w _ _
def JI(w:fq):gN ((w.k (ml kq kq kq kq kq) 147).k (ml kq kq kq kq kq) 147) (w.heap.size+1) []:=.of_block<|Ru w _ _
theorem kj(l)(e:Good l)(w:fq):ik 69 #[hh<|lA l] w (ut (fC #[ln l,fY 0]) w):=by
 have ac:=yt e.val;have av:=e.len;have hcut:∀j(b:j<fv l)a,ik 128 #[hh<|lA (l.drop j),fA ⟨#[47]⟩] a (ut (fC #[hh<|l.getD j kq,hh<|lA (l.drop<|j+1),fE<|decide (j+1<fv l)]) a):=by
  intro j b a;have g:l.drop j=l[j]::l.drop (j+1):=KM b;have h:fN l[j]=fm:=e.val _<|kN b;have n:(lA<|l.drop j).size<=1000:=by
   have:=yt (l:=l.drop j) λx f=>e.val x<|Wy f
   have aw:fv (l.drop j)<=5:=by rw[rG];omega
   omega
  rw[g]at n
  have:=jps l[j] (l.drop<|j+1) h n a
  rw[<-g]at this;have o:(!(l.drop<|j+1).isEmpty)=decide (j+1<fv l):=by
   by_cases p:j+1<fv l;rw[qu p,KM p];rfl;rw[yv p,Wu<|by omega];rfl
  rw[o]at this;rw[wK,jH b,sA];exact this
 have G:∀j(b:j<fv l)a,ik 129 #[hh<|l.getD j kq] a (PP (fE fm) a):=by
  intro j b a;have h:fN l[j]=fm:=e.val _<|kN b;rw[wK,jH b,sA]
  have:=Ch l[j] a (by have:=(xp h).2;unfold maxLen;omega)
  rwa [h]at this
 have H:∀j a,ik 130 #[hh<|l.getD j kq] a (ut (hh<|l.getD j kq) a):=λj a=>xZ _ a (by
  rw[wK];rcases b:l[j]? with _|x
  simp[ByteArray.size]
  have:=(xp<|e.val x (cex b)).2
  rw[sA];omega)
 have ax:(!(lA l).toList.isEmpty)=decide (0<fv l):=by
  rw[mC]
  match l,e with
  |[],_=>rfl
  |[x],e=>
   have:=OB<|e.val x (by simp)
   rw[mC]at this;rw[uH];rcases p:iQ x with _|⟨c,r⟩
   rw[p]at this;cases this;rfl
  |x::y::r,_=>
   rw[pM x<|by simp];simp
 change fe _ at hcut G H
 clear ac;go_enter func69,ntmps69;go_wp2;have ad:fe (gN ((w.k (ml kq kq kq kq kq) 147).k (ml kq kq kq kq kq) 147) w.heap.size []):=JH w;have ae:fe (gN ((w.k (ml kq kq kq kq kq) 147).k (ml kq kq kq kq kq) 147) (w.heap.size+1) []):=JI w
 go_loopw [5,6,7] (λr m i wr=>∃j:Nat,j<=fv l/\i=.int .i64 (j:Int)/\m=fE (decide (j<fv l))/\r=fA (lA<|l.drop j)/\ju w wr/\fe (gN wr w.heap.size [])/\fe (gN wr (w.heap.size+1)<|l.take j)) (λ_ _ i _=>fv l-(intOf i).toNat)
 case atStart=>exact⟨0,zt _,rfl,rfl,rfl,((mi _ _).alloc (lw _) _).alloc (by simp) _,ad,ae⟩
 case round=>
  obtain⟨j,b,rfl,rfl,rfl,I,J,q⟩:=hrel;by_cases u:j<fv l
  ·rw[qu u]
   have K:j<5:=by omega
   have ay:((j:Int)==5)=fo:=by simp;omega
   have az:(j:Int)<5:=by omega
   have A:=hcut j u;have L:=G j u;have af:w.heap.size+1<wr.heap.size:=q.1;generalize n:decide (j+1<fv l)=aA at A;have ag:fe _:=n;generalize f:l.getD j kq=x at A L;have z:fe _:=f;clear n f;go_wp2_with fail;refine Calls.via (A wr) λO d=>?_;have M:w.heap.size+1<O.heap.size:=np af d.size;have ah:=((q.o.keep d).2 j K);have⟨ai,aB⟩:=ah;generalize (l.take j).getD j kq=aC at ai;go_wp2_with(go_at_call 129;apply Calls.still<|L _);go_roundw
   case rel=>
    refine⟨j+1,by omega,by go_num,by rw[ag.o],fX,?_,(J.o.keep d).other<|by omega,?_⟩;refine wB ?_ (by simp) _;exact gS I d;rw[<-z.o];exact(q.o.keep d).set K
   case measure=>simp[intOf];omega
  rw[yv u];have aj:j=fv l:=by omega
  subst aj;rw[sH]at q;rw[hMs];go_wp2
  go_loopw [32] (λi wr=>∃k:Nat,k<=5/\i=.int .i64 (k:Int)/\ju w wr/\fe (gN wr w.heap.size [])/\fe (gN wr (w.heap.size+1) l)) (λi _=>5-(intOf i).toNat)
  case atStart=>exact⟨0,by omega,rfl,I,J,q⟩
  case round=>
   obtain⟨k,aD,rfl,N,B,s⟩:=hrel;have aE:w.heap.size<wr.heap.size:=B.o.1;have M:w.heap.size+1<wr.heap.size:=s.1;by_cases C:k<5
   ·have ak:(k:Int)<5:=by omega
    have⟨al,aF⟩:=s.2 k C;have P:=H k;generalize f:l.getD k kq=x at P al;have z:fe _:=f;clear f;go_wp2_with fail;refine Calls.via (P wr) λO d=>?_;have⟨am,aG⟩:=(s.keep d).2 k C;rw[z.o]at am;have aH:w.heap.size+1<O.heap.size:=np M d.size;go_wp2;go_roundw
    case rel=>
     refine⟨k+1,by omega,by go_num,?_,(B.o.keep d).other<|by omega,?_⟩;refine wB ?_ (by simp) _;exact gS N d;rw[<-z.o];exact(s.o.keep d).over C
    case measure=>simp[intOf];omega
   have ak:¬(k:Int)<5:=by omega
   have⟨⟨an,ao,ap,aq,ar⟩,au⟩:=s.five;have⟨⟨Q,S,T,U,V⟩,R⟩:=B.five;have aI:=R 0 (by omega);have aJ:=R 1 (by omega);have aK:=R 2 (by omega);have aL:=R 3 (by omega);have aM:=R 4 (by omega);clear au R;have⟨W,X,Y,aa,Z,ab⟩:=sf l;simp only[jn,Array.mk.injEq,Cc,Value.string.injEq,Eg]at ab;have⟨D,g,o,E,F⟩:=ab;rw[D]at an;rw[g]at ao;rw[o]at ap;rw[E]at aq;rw[F]at ar;have t:fe _:=And.intro D<|And.intro g (And.intro o<|And.intro E F);clear D g o E F;simp only[tQ]at Q S T U V;have h:ln l=fD (ml W X Y aa Z):=by
    unfold ln jn;rw[t.o.1,t.o.2.1,t.o.2.2.1,t.o.2.2.2.1,t.o.2.2.2.2]
   go_wp2;exact ni (v:=fC #[fD<|ml W X Y aa Z,fY 0]) (by simp[results,results69,go_sem,Q,S,T,U,V]) fX ⟨fX,by
    repeat(refine wB ?_ (by simp) _)
    exact N⟩
def letters:fT:=[⟨#[97]⟩,⟨#[98]⟩,⟨#[99]⟩,⟨#[100]⟩]
abbrev gF:=Nat->Nat×Nat
def lG (N:gF)(w:fq):Prop:=∀k,w.heap.size<=k->N k=(0,0)
structure fI (P:Nat×Nat->Prop)(tg tg':gF)(w w':World):Prop where
 os:w'.os=w.os
 tape:w'.tape=w.tape
 output:w'.output=w.output
 size:w.heap.size<=w'.heap.size
 tags:∀k,k<w.heap.size->tg' k=tg k
 block:∀k,k<w.heap.size->¬P (tg k)->w'.heap[k]?=w.heap[k]?
 fresh:lG tg w->lG tg' w'
theorem fI.refl(P:Nat×Nat->Prop)(N)(w):fI P N N w w:=⟨fX,fX,fX,lw _,λ_ _=>rfl,λ_ _ _=>rfl,id⟩
theorem fI.fJ{N}(a:ju w H):fI P N N w H:=⟨a.os,a.tape,a.output,a.size,λ_ _=>rfl,λk b _=>a.block k b,λc k b=>c k<|wy a.size b⟩
theorem fI.trans{N M d}{w H e}(a:fI P N M w H)(k:fI P M d H e):fI P N d w e:=
 ⟨k.os.trans a.os,k.tape.trans a.tape,k.output.trans a.output,wy a.size k.size,λb c=>(k.tags b (np c a.size)).trans<|a.tags b c,
  λb c f=>(k.block b (np c a.size) (by rw[a.tags b c];exact f)).trans<|a.block b c f,λg=>k.fresh<|a.fresh g⟩
theorem fI.mono{P b:Nat×Nat->Prop}{N M}(a:fI P N M w H)(c:∀t,P t->b t):fI b N M w H:=
 ⟨a.os,a.tape,a.output,a.size,a.tags,λk d e=>a.block k d λf=>e<|c _ f,a.fresh⟩
def kY (N:gF)(b:Nat)(t:Nat×Nat):gF:=λk=>if k=b then t else N k
theorem nu(N)(b)(t):kY N b t b=t:=by unfold kY;rw[lv fX]
def xv{N}(a:k≠b)(t):kY N b t k=N k:=by unfold kY;rw[km a]
theorem fI.at{N M}(a:fI P N M w H){o:Obj}(c:w.heap[b]?=fh o)(e:N b=t)(f:¬P t):H.heap[b]?=fh o/\M b=t:=by
 have d:=(lW.1 c).1;exact⟨(a.block b d (by grind)).trans c,(a.tags b d).trans e⟩
def oN (N:gF)(w:fq)(t:Nat×Nat)(v:fu)(es:List fV):Prop:=w.ownsRow 0 96 3 v (fv es) (flat es)/\∀g,v.ownBlock=fh g->N g=t
def oN.keep{N M:gF}(b:oN N w t v es)(c:∀g,v.ownBlock=fh g->g<w.heap.size->H.heap[g]?=w.heap[g]?/\M g=N g):oN M H t v es:=
 ⟨gg b.1 λg a=>(c g a (gc b.1 a)).1,λg a=>((c g a<|gc b.1 a).2).trans<|b.2 g a⟩
theorem oN.moves{N M}(a:oN N w t v es)(m:fI P N M w H)(c:¬P t):oN M H t v es:=
 a.keep λg d b=>⟨m.block g b (by rw[a.2 g d];exact c),m.tags g b⟩
def CA (N:gF)(w:fq)(ft:kI)(got:List Int):Prop:=w.ownsRow 0 29 1 (fy ft.a ft.n ft.c) ft.n (got.map<|Value.int .i64)/\ft.n=fv got/\∀g,(Value.slice ft.a ft.n ft.c).ownBlock=fh g->N g=(1,1)
structure js (tg:gF)(w:World)(s p:Nat)(gM:List Ob)(got:List Int)(brk:Bool)(lim:Nat):Prop where
 fresh:lG tg w
 ex:∃ft:kI,ft.b=brk/\gQ ft (fun k=>tg k=(1,0)) w s p gM/\CA tg w ft got/\Sound gM/\got.length<=lim
theorem js.sound{N}(a:js N w s p A got brk I):Sound A:=by
 obtain⟨_,ft,_,_,_,b,_⟩:=a;exact b
theorem yu{c}{e}{a}{b}(d:w.ownsRow c e a v n b):w.ownsRow 0 e a v n b:=by
 obtain⟨f,g⟩:=d;refine⟨f,?_⟩
 grind
theorem CA.moves{N M}(a:CA N w ft got)(m:fI P N M w H)(c:¬P (1,1)):CA M H ft got:=
 ⟨gg a.1 λg b=>m.block g (gc a.1 b) (by rw[a.2.2 g b];exact c),a.2.1,λg b=>(m.tags g (gc a.1 b)).trans<|a.2.2 g b⟩
theorem js.moves{N M}(b:js N w s p A got brk I)(m:fI P N M w H)(i:¬P (1,0))(c:¬P (1,1)):js M H s p A got brk I:=by
 obtain⟨d,ft,e,U,f,g,h⟩:=b;exact⟨m.fresh d,ft,e,U.keep (λk a hF=>m.block k a (by grind)) λk a hF=>(m.tags k a).trans hF,f.moves m c,g,h⟩
theorem js.mono{N}(a:js N w s p A got brk I)(b:I<=jf):js N w s p A got brk jf:=by
 obtain⟨c,ft,d,U,e,f,a⟩:=a;exact⟨c,ft,d,U,e,f,wy a b⟩
theorem js.zi{N M}(d:js N w s p A got brk I)(e:lG M w)(b:∀k,(N k).1=1->M k=N k):js M w s p A got brk I:=by
 obtain⟨_,ft,f,U,a,h,i⟩:=d;exact⟨e,ft,f,U.keep (λk _ _=>rfl) λk _ hF=>(b k (by rw[hF])).trans hF,⟨a.1,a.2.1,λg c=>(b g (by rw[a.2.2 g c])).trans<|a.2.2 g c⟩,h,i⟩
structure WB where
 wb:Nat
 bt:Nat
 sF:Nat
 sD:Nat
 mF:Nat
 mD:Nat
 oF:Nat
 oD:Nat
structure WG where
 base:Int
 ft:FT
 fs:b6
 fl:Nat->Option (Int×fP)
 op:Nat->Option (Nat×Nat×Int×Int)
def ptr (b:Nat):fu:=fB<|fh ⟨b,0,fj⟩
def Bn (a:Option (Nat×Nat×Int×Int)):fu:=fB (a.map λx=>⟨x.1,0,fj⟩)
structure JJ (tg:gF)(w:World)(i p:Nat)(B:WB)(base root:Int):Prop where
 tt:tg B.bt=(i,1)
 tF:tg B.sF=(i,1)
 tD:tg B.sD=(i,1)
 ht:w.heap[B.bt]?=some (.cells #[ptr p,ptr B.sF,ptr B.sD,.int .i64 base,.string ⟨#[]⟩,.int .i64 2,.int .i64 root,.map (some B.oF),.map (some B.oD)] 164 (0,0))
 hF:w.heap[B.sF]?=some (.cells #[.func (.func 115) #[ptr p] #[],.map (some B.mF)] 267 (0,0))
 hD:w.heap[B.sD]?=some (.cells #[.func (.func 117) #[ptr p] #[],.map (some B.mD)] 271 (0,0))
theorem JJ.moves{N M}{B}{c d:Int}(a:JJ N w i p B c d)(m:fI P N M w H)(b:¬P (i,1)):JJ M H i p B c d:=by
 obtain⟨e,f⟩:=m.at a.ht a.tt b;obtain⟨g,h⟩:=m.at a.hF a.tF b;obtain⟨j,k⟩:=m.at a.hD a.tD b;exact⟨f,h,k,e,g,j⟩
theorem kE.moves{N M}{k}{a}(c:kE w k b n a)(m:fI P N M w H)(e:N b=t)(f:¬P t):kE H k b n a/\M b=t:=by
 have d:=c.lt;exact⟨c.keep<|m.block b d (by grind),(m.tags b d).trans e⟩
def LC (id:Int):Lit:=.int .i64 id
def Bo (N:gF)(w:fq)(i:Nat)(B:WB)(A:List Ob)(kF:Int->Bool)(I:Nat):Prop:=
 N B.mF=(i,2)/\∃n a,n<=I/\kE w 29 B.mF n a/\(∀id,a (LC id)=if kF id then fh (fA (bytesOf A id))else fj)/\∀id,kF id=fm->fK A id=1
def Bp (N:gF)(w:fq)(i:Nat)(B:WB)(A:List Ob)(kD:Int->Bool)(I:Nat):Prop:=
 N B.mD=(i,3)/\∃n a,∃b:Int->fu,n<=I/\kE w 29 B.mD n a/\(∀id,a (LC id)=if kD id then fh (b id)else fj)/\∀id,kD id=fm->fK A id=2/\oN N w (i,3) (b id) (fQ A id)
theorem Bo.moves{N M}{B}(a:Bo N w i B A kF I)(m:fI P N M w H)(c:¬P (i,2)):Bo M H i B A kF I:=by
 obtain⟨d,n,e,f,g,h,j⟩:=a;obtain⟨k,b⟩:=g.moves m d c;exact⟨b,n,e,f,k,h,j⟩
theorem Bp.moves{N M}{B}(d:Bp N w i B A kD I)(m:fI P N M w H)(a:¬P (i,3)):Bp M H i B A kD I:=by
 obtain⟨e,n,f,g,h,j,k,c⟩:=d;obtain⟨l,b⟩:=j.moves m e a;exact⟨b,n,f,g,h,l,k,λid hid=>⟨(c id hid).1,(c id hid).2.moves m a⟩⟩
def jV (w:fq)(b n:Nat)(f:fT->Option fu):Prop:=
 ∃a,kE w 147 b n a/\(∀p,Good p->a (qi prog p)=f p)/\∀c,WideAt.IsKeyLit c->a c≠fj->∃p,Good p/\c=qi prog p
def CB (N:gF)(w:fq)(i:Nat)(B:WB)(of:fT->Option Nat)(I:Nat):Prop:=
 N B.oF=(i,4)/\(∃n,n<=I/\jV w B.oF n λp=>(of p).map ptr)/\∀p f,of p=fh f->Good p
structure gG (tg:gF)(w:World)(i:Nat)(B:WB)(od:fT->Option (List fV))(lim:Nat)(vD:fT->Value):Prop where
 tag:tg B.oD=(i,5)
 map:∃n,n<=lim/\jV w B.oD n (fun p=>(od p).map fun _=>vD p)
 good:∀p es,od p=some es->Good p/\fO es/\es.length<=16/\∀e∈es,fN e.1=true/\(e.2.1=1\/e.2.1=2)
 row:∀p es,od p=some es->oN tg w (i,5) (vD p) es
 inj:∀p q es fs g,od p=some es->od q=some fs->(vD p).ownBlock=some g->(vD q).ownBlock=some g->p=q
def acf (N:gF)(w:fq)(i:Nat)(B:WB)(od:fT->Option (List fV))(I:Nat):Prop:=∃J,gG N w i B od I J
theorem jV.keep(a:jV w b n f)(e:H.heap[b]?=w.heap[b]?):jV H b n f:=by
 obtain⟨c,d,g,h⟩:=a;exact⟨c,d.keep e,g,h⟩
theorem jV.lt(a:jV w b n f):b<w.heap.size:=by
 obtain⟨d,c,_⟩:=a;exact c.lt
theorem CB.moves{N M}{B}(b:CB N w i B of I)(m:fI P N M w H)(f:¬P (i,4)):CB M H i B of I:=by
 obtain⟨c,⟨n,d,a⟩,e⟩:=b;exact⟨(m.tags _ a.lt).trans c,⟨n,d,a.keep<|m.block _ a.lt (by grind)⟩,e⟩
theorem gG.moves{N M}{B}(b:gG N w i B od I J)(m:fI P N M w H)(c:¬P (i,5)):gG M H i B od I J:=by
 obtain⟨d,⟨n,e,a⟩,f,g,U⟩:=b;exact⟨(m.tags _ a.lt).trans d,⟨n,e,a.keep<|m.block _ a.lt (by grind)⟩,f,λp es h=>(g p es h).moves m c,U⟩
def Ew (N:gF)(w:fq)(i:Nat)(B:WB)(fl:Nat->Option (Int×fP)):Prop:=
 ∀f id d,fl f=fh (id,d)->N f=(i,6)/\w.heap[f]?=fh (.cells #[fB<|if id=0 then fj else fh ⟨B.sF,0,fj⟩,.int .i64 id,fA d] 308 (0,0))/\d.size<=256
theorem Ew.moves{N M}{B}(a:Ew N w i B fl)(m:fI P N M w H)(c:¬P (i,6)):Ew M H i B fl:=λf id d e=>by
 obtain⟨g,h,j⟩:=a f id d e
 obtain⟨k,b⟩:=m.at h g c
 exact⟨b,k,j⟩
structure yw (tg:gF)(w:World)(i:Nat)(B:WB)(fl:Nat->Option (Int×fP))(op:Nat->Option (Nat×Nat×Int×Int)):Prop where
 tw:tg B.wb=(i,0)
 hw:w.heap[B.wb]?=some (.cells #[ptr B.bt,Bn (op 0),Bn (op 1),Bn (op 2),Bn (op 3),Bn (op 4),Bn (op 5),Bn (op 6),Bn (op 7)] 91 (0,0))
 past:∀k,8<=k->op k=none
 at_:∀k b f fg pl,op k=some (b,f,fg,pl)->tg b=(i,7)/\w.heap[b]?=some (.cells #[ptr f,.int .i64 fg,.int .i64 pl] 277 (0,0))/\(∃x,fl f=some x)/\0<=fg/\fg<64/\0<=pl/\pl<=256
 inj:∀k l x y,op k=some x->op l=some y->x.1=y.1->k=l
theorem yw.moves{N M}{B}{c:Nat->Option (Nat×Nat×Int×Int)}(a:yw N w i B fl c)(m:fI P N M w H)(d:¬P (i,0))(e:¬P (i,7)):yw M H i B fl c:=by
 obtain⟨g,b⟩:=m.at a.hw a.tw d;refine⟨b,g,a.past,λk b f fg h j=>?_,a.inj⟩;obtain⟨l,n,o⟩:=a.at_ k b f fg h j;obtain⟨p,q⟩:=m.at n l e
 grind
def oQ (A:List Ob)(e:fV):Prop:=(e.2.1=1\/e.2.1=2)/\(e.2.2≠0->fK A e.2.2=e.2.1)
structure aaG (gM:List Ob)(ft:FT):Prop where
 root:ft.root≠0->fK gM ft.root=2
 od:∀p es,ft.od p=some es->∀e∈es,oQ gM e
structure qB (tg:gF)(w:World)(i p:Nat)(B:WB)(gM:List Ob)(g:WG)(lim:Nat):Prop where
 tree:JJ tg w i p B g.base g.ft.root
 nP:Bo tg w i B gM g.fs.kF lim
 nQ:Bp tg w i B gM g.fs.kD lim
 tY:CB tg w i B g.ft.of lim
 qj:acf tg w i B g.ft.od lim
 files:Ew tg w i B g.fl
 held:∀q f,g.ft.of q=some f->∃x,g.fl f=some x
 opens:yw tg w i B g.fl g.op
 ok:aaG gM g.ft
theorem qB.moves{N M}{B}{g}(a:qB N w i p B A g I)(m:fI P N M w H)(b:∀k,¬P (i,k)):qB M H i p B A g I:=by
 obtain⟨J,c⟩:=a.qj;exact⟨a.tree.moves m<|b 1,a.nP.moves m<|b 2,a.nQ.moves m<|b 3,a.tY.moves m<|b 4,⟨J,c.moves m<|b 5⟩,a.files.moves m<|b 6,a.held,a.opens.moves m (b 0)<|b 7,a.ok⟩
structure fZ (tg:gF)(w:World)(s i p:Nat)(B:WB)(gM:List Ob)(g:WG)(lim:Nat):Prop where
 two:2<=i
 st:js tg w s p gM g.fs.got g.fs.brk lim
 wp:qB tg w i p B gM g lim
def Mine (i:Nat)(t:Nat×Nat):Prop:=t.1=1\/t.1=i
theorem fZ.below{N}{B}{g}(a:fZ N w s i p B A g I)(b:ju w H):fZ N H s i p B A g I:=by
 have m:fI (λ_=>False) N N w H:=fI.fJ b;exact⟨a.two,a.st.moves m id id,a.wp.moves m λ_=>id⟩
def hbd:(prog.info? 29).map (λi=>(i.zero,i.size,i.bytes))=fh (fh<|fY 0,1,8):=by kernel_rfl
def OI(p)(c)(n h d f)(id:Int)(w)(a:gA ft w p c n h d f)(b:ft.b=fm):
  ik 174 #[ie p,fY id] w λe H=>e=fF (fY 14)/\H=w.setCell (ii p 4) (fE fo):=by
 have c4:w.c p 4=fh (fE fm):=by unfold gA at a;simp[World.cell?,a,b]
 have f4:w.frozen? (ii p 4)=fo:=by unfold gA at a;simp[World.frozen?,a]
 clear a b;go_enter func174,ntmps174;go_wp2;go_ret;exact⟨fX,fX⟩
def ti1(w:fq)(c0:fu)(t:lV):∀j b,[c0][j]?=fh b->(w.k #[c0] t).cell? (((ii w.heap.size 0):Addr).add j)=fh b:=by
 intro j b a
 match j,a with
 |0,a=>simpa [Addr.add]using a
 |j+1,a=>simp at a
def OJ(b:(w.alloc o1).grownBy O r)(c:p<w.heap.size)(d:fh p≠r)(e:w.cell? (ii p i)=fh v):O.cell? (ii p i)=fh v:=by
 rw[wJ (a:=(ii p i))<|b.block p (by simp;omega) d,hwn _ _ _ c,e]
def Im(b:(w.alloc o1).grownBy O r)(c:p<w.heap.size)(d:fh p≠r)(e:w.frozen? (ii p i)=fo):O.frozen? (ii p i)=fo:=by
 rw[Rk (a:=(ii p i))<|b.block p (by simp;omega) d,rip _ _ _ c,e]
theorem SK(p:Nat)(a:ig)(n c)(b)(id:Int)(w:fq)(f:p<w.heap.size)(c3:w.c p 3=fh (fy a n c))(f3:w.frozen? (ii p 3)=fo)(c4:w.c p 4=fh (fE fo))
  (h:w.ownsRow 0 29 1 (fy a n c) n b)(i:fh p≠(Value.slice a n c).ownBlock)(u:n<1099511627776):
  ik 174 #[ie p,fY id] w λe H=>e=fF (fY 0)/\
   ∃g R O,O.ownsRow 0 29 1 (my g 0 (n+1) R) (n+1) (b++[fY id])/\(∃o1,(w.alloc o1).grownBy O (Value.slice a n c).ownBlock/\((fh g:Option Nat)=(Value.slice a n c).ownBlock\/g=w.heap.size+1))/\H=O.setCell (ii p 3) (my g 0 (n+1) R):=by
 have⟨m,U,o,q,r⟩:=kC hbd;have s:=h;have j:=i;clear h i;go_enter func174,ntmps174;go_wp2_with(first|(at_builtin;go_loud(refine cfg _ fX (.tmp 16) (.tmp 18) 59 fX 0 29 m _ 1 8 underlying59 U o q r fX (by decide) (fy a n c) n b fX (s.alloc _) (ii w.heap.size 0) 1 1 [fY id] fX fX (ti1 w (fY id) 29) (by intro v k;simp at k;subst k;rfl) (by unfold maxLen;omega) (by omega) (zt _) ?_;intro x O l d _ t;obtain⟨g,R,rfl⟩:=hZ l (by omega);have y:=OJ d f j c3;have z:=Im d f j f3))|go_in);go_ret;exact⟨fX,g,R,O,l,⟨_,d,by simpa [Value.ownBlock]using t⟩,fX⟩
theorem gQ.tail{ft u:kI}{c x:Nat->Prop}(o:gQ ft c w s p A)(D:∀d n h f j,gA ft w p d n h f j->gA u H p d n h f j)(l:∀k,k<w.heap.size->c k->k≠p->H.heap[k]?=w.heap[k]?)(hF:∀k,k<w.heap.size->c k->x k):gQ u x H s p A:=by
 have⟨d,h,f,j,E,F,i⟩:=o;have M:=(lW.1 i.hs).1;have G:=og i.hs i.gR.at_ (by decide);have y:∀{b:Nat}{es:Array MapEntry}{I:Nat},w.heap[b]?=fh (.map es I)->b≠p:=λJ e=>by subst e;have:=i.gR.at_;unfold gA at this;rw[J]at this;cases this
 have⟨W,c1,K⟩:=pp i.files;have⟨X,c2,L⟩:=pp i.rL;have z:∀v m t k q,w.ownsRow 0 t k v m q->t≠185->(∀g,v.ownBlock=fh g->c g)->H.ownsRow 0 t k v m q:=λv m t k q r N hFg=>gg r (λg a=>l g (gc r a) (hFg g a) (λe=>by
  subst e;exact io r i.gR.at_ (λe=>N e.symm) a.symm))
 refine⟨d,h,f,j,E,F,⟨hF _ M i.fs,hF _ i.gR.at_.lt i.fp,hF _ i.files.lt i.ff,hF _ i.rL.lt i.fd,λg a=>hF g (gc i.gR.row a)<|i.fr g a,(l s M i.fs G).trans i.hs,⟨D _ _ _ _ _ i.gR.at_,z _ _ _ _ _ i.gR.row (by decide) i.fr,i.gR.len,i.gR.many⟩,i.ne,
  pB i.files (l _ i.files.lt i.ff<|y K),i.lZ,pB i.rL<|l _ i.rL.lt i.fd (y L),i.oh,λO P=>?_⟩⟩
 rcases i.zz O P with o|⟨Q,R,S,T,U,V,B,C⟩
 exact .inl o;exact .inr ⟨Q,R,S,T,U,V,λg a=>hF g (gc C a)<|B g a,z _ _ _ _ _ C (by decide) B⟩
def Rg (t:Nat×Nat):Prop:=t=(1,0)\/t=(1,1)
def uI (s p:Nat)(A:List Ob)(got:List Int)(brk:Bool)(I:Nat)(id:Int)(N:gF)(w:fq)(a:Int):Prop:=
 (brk=fm/\a=14/\js N w s p A got fo I)\/(brk=fo/\a=0/\js N w s p A (got++[id]) fo (I+1))
theorem Dm{N}(f:js N w s p A got brk I)(Z:I<1099511627776)(id:Int):
  ik 174 #[ie p,fY id] w λe H=>∃q,e=fF (fY q)/\∃M,fI Rg N M w H/\uI s p A got brk I id M H q:=by
 obtain⟨z,ft,r,U,c,t,B⟩:=f;have C:=U;obtain⟨D,h,E,F,aa,ab,i⟩:=C;have d:=i.gR.at_;have G:=d.lt;have u:=i.fp;have v:=io c.1 d (by decide);cases brk with
 |true=>
  refine(OI p D (fv A) h E F id w d r).mono ?_;rintro e H ⟨rfl,rfl⟩;refine⟨14,fX,N,⟨fX,fX,fX,by simp,λ_ _=>rfl,λk a l=>vh _ _ _ _ λe=>l (by rw[e,u];exact .inl fX),λx k a=>x k (by simpa using a)⟩,.inl ⟨fX,fX,λk a=>z k (by simpa using a),{ ft with b:=fo },fX,?_,⟨?_,c.2.1,c.2.2⟩,t,B⟩⟩;refine U.tail (λJ K R L P n=>?_) (λk a hF m=>vh _ _ _ _ m) λk a hF=>hF;unfold gA at n |-;simp[World.setCell,BV,n];exact gg c.1 λg Q=>vh _ _ _ _ λe=>v (by rw[Q,e])
 |false=>
  have c3:w.c p 3=fh (fy ft.a ft.n ft.c):=by unfold gA at d;simp[World.cell?,d]
  have f3:w.frozen? (ii p 3)=fo:=by unfold gA at d;simp[World.frozen?,d]
  have c4:w.c p 4=fh (fE fo):=by unfold gA at d;simp[World.cell?,d,r]
  refine(SK p ft.a ft.n ft.c _ id w G c3 f3 c4 c.1 v (by rw[c.2.1];omega)).mono ?_;rintro e H ⟨rfl,g,R,O,S,⟨o1,j,T⟩,rfl⟩;have V:=j.size;simp at V;have W:∀k,k<w.heap.size->fh k≠(Value.slice ft.a ft.n ft.c).ownBlock->O.heap[k]?=w.heap[k]?:=λk a m=>by
   rw[j.block k (by simp;omega) m,sG _ _ _ a]
  have X:g≠p:=by
   all_goals grind
  have FM:∀k,N k=(1,0)->fh k≠(Value.slice ft.a ft.n ft.c).ownBlock:=λk a e=>by have:=c.2.2 k e.symm;rw[a]at this;cases this
  refine⟨0,fX,λk=>if k<w.heap.size then N k else if k<O.heap.size then(1,1) else(0,0),⟨j.os,j.tape,j.output,by simp;omega,λk a=>lv a,λk a l=>?_,λx k a=>?_⟩,.inr ⟨fX,fX,λk a=>?_,⟨fh<|ii g 0,ft.n+1,R,fo⟩,fX,?_,⟨?_,?_,λy o=>?_⟩,t,by simp;omega⟩⟩;rw[vh _ _ _ _ λe=>l (by rw[e,u];exact .inl fX),W k a λe=>l<|.inr (c.2.2 k e.symm)]
  ·have Y:O.heap.size<=k:=by simpa using a
   all_goals grind
  ·have Y:O.heap.size<=k:=by simpa using a
   all_goals grind
  ·refine U.tail (λJ K ac L P n=>?_) (λk a hF m=>?_) (λk a hF=>by show(if _ then _ else _)=_;rw[lv a];exact hF)
   all_goals grind [gA,World.setCell,vh]
  rw[nh];exact gg S (λy o=>by cases o;exact vh _ _ _ _ X);simp[c.2.1];obtain rfl:g=y:=by simpa [Value.ownBlock]using o
  show(if _ then _ else _)=_;rcases T with f|f
  rw[lv<|gc c.1 f.symm];exact c.2.2 g f.symm
  all_goals grind [gc]
theorem FN(a:j<fv A):bytesOf A ((j:Int)+1)=A[j].data:=by
 grind [bytesOf,Int,jH]
theorem XY(a:j<fv A):fQ A ((j:Int)+1)=A[j].gh:=by
 grind [fQ,Int,jH]
section
variable {N:gF}
theorem js.file(a:js N w s p A got brk I)(f:fK A id=1):
  ik 84 #[ie p,fY id] w (ut (fC #[hh (bytesOf A id),fY 0]) w):=by
 have⟨_,ft,_,⟨b,h,c,d,g,k,i⟩,_⟩:=a;refine(Nr p b (fv A) h c d A id w i.gR).mono ?_;rintro e H ⟨l,⟨m,_⟩|⟨j,n,rfl,_,o⟩⟩
 all_goals grind [absurd,FN]
theorem js.dir(a:js N w s p A got brk I)(b:fK A id=2):
  ik 85 #[ie p,fY id] w λe H=>∃g,e=pD #[fy (fh<|ii g 0) (fv<|fQ A id)<|fv (fQ A id),fY 0]/\H.ownsRow w.heap.size 96 3 (fy (fh<|ii g 0) (fv<|fQ A id)<|fv (fQ A id)) (fv<|fQ A id) (flat<|fQ A id)/\ju w H:=by
 have⟨_,ft,_,⟨c,h,d,f,k,l,i⟩,_⟩:=a;refine(Fa i id).mono ?_;rintro e H ⟨⟨m,_⟩|⟨j,n,rfl,_,g,o,q⟩,r⟩
 all_goals grind [absurd,XY]
theorem zj(a:js N w s p A got brk I)(i:I<1099511627776)(o:fK A id=1):
  ik 115 #[ie p,fY id] w λe H=>∃b,e=pD #[hh<|if b=0 then bytesOf A id else kq,fY b]/\∃M,fI Rg N M w H/\uI s p A got brk I id M H b:=by
 have c:=Dm a i id;clear a i;cases brk with
 |true=>
  have g:ik 174 #[ie p,fY id] w λe H=>e=fF (fY 14)/\∃M,fI Rg N M w H/\uI s p A got fm I id M H 14:=c.mono (λe H⟨b,h,M,m,d⟩=>by
   have q:b=14:=by rcases d with⟨_,a,_⟩|⟨a,_⟩;exact a;cases a
   subst q;exact⟨h,M,m,d⟩)
  clear c;go_enter func115,ntmps115;go_wp2_with(go_at_call 174;refine g.via λO j=>?_;have r:fe _:=j;clear j);go_ret2;exact⟨14,fX,r⟩
 |false=>
  have g:ik 174 #[ie p,fY id] w λe H=>e=fF (fY 0)/\∃M,fI Rg N M w H/\js M H s p A (got++[id]) fo (I+1):=c.mono (λe H⟨b,h,M,m,d⟩=>by
   rcases d with⟨a,_⟩|⟨_,rfl,f⟩
   cases a;exact⟨h,M,m,f⟩)
  clear c;go_enter func115,ntmps115;go_wp2_with(first
   |(go_at_call 174;refine g.via λO⟨t,k,f⟩=>?_;have l:fe _:=f;change fe _ at k;clear f)
   |(go_at_call 84;refine(js.file l.o o).via λu n=>?_))
  go_ret2;exact⟨0,by rw[lv fX];rfl,t,k.trans<|fI.fJ n,.inr ⟨fX,fX,l.moves (P:=λ_=>False) (fI.fJ n) (λx=>x) λx=>x⟩⟩
theorem Bq(a:js N w s p A got brk I)(l:I<1099511627776)(y:fK A id=2):
  ik 117 #[ie p,fY id] w λe H=>∃b v,e=pD #[v,fY b]/\(b≠0->v=fy fj 0 0)/\∃M,fI Rg N M w H/\uI s p A got brk I id M H b/\
   (b=0->∃g,v=fy (fh<|ii g 0) (fv<|fQ A id) (fv<|fQ A id)/\w.heap.size<=g/\M g=(0,0)/\H.ownsRow 0 96 3 v (fv<|fQ A id) (flat<|fQ A id)):=by
 have f:=Dm a l id;clear a l;cases brk with
 |true=>
  have i:ik 174 #[ie p,fY id] w λe H=>e=fF (fY 14)/\∃M,fI Rg N M w H/\uI s p A got fm I id M H 14:=f.mono (λe H⟨b,j,M,m,c⟩=>by
   have z:b=14:=by rcases c with⟨_,a,_⟩|⟨a,_⟩;exact a;cases a
   subst z;exact⟨j,M,m,c⟩)
  clear f;go_enter func117,ntmps117;go_wp2_with(go_at_call 174;refine i.via λO n=>?_;have h:fe _:=n;clear n);go_ret2;have⟨M,m,c⟩:=h;exact⟨14,_,fX,λ_=>rfl,M,m,c,λa=>by cases a⟩
 |false=>
  have i:ik 174 #[ie p,fY id] w λe H=>e=fF (fY 0)/\∃M,fI Rg N M w H/\js M H s p A (got++[id]) fo (I+1):=f.mono (λe H⟨b,j,M,m,c⟩=>by
   rcases c with⟨a,_⟩|⟨_,rfl,d⟩
   cases a;exact⟨j,M,m,d⟩)
  clear f;go_enter func117,ntmps117;go_wp2_with(first
   |(go_at_call 174;refine i.via λO⟨B,o,d⟩=>?_;have q:fe _:=o;have k:fe _:=d;clear o d)
   |(go_at_call 85;apply (js.dir k y).mono;rintro e E ⟨g,rfl,r,t⟩;have h:fe _:=r;clear r))
  go_ret2;have d:=k.o;have u:O.heap.size<=g:=by
   rcases h.2 with⟨a,_⟩|⟨F,_,_,C,D,_⟩
   cases a;cases C;exact D
  exact⟨0,_,fX,λa=>absurd fX a,B,q.o.trans<|fI.fJ t,.inr ⟨fX,fX,k.o.moves (P:=λ_=>False) (fI.fJ t) (λx=>x) λx=>x⟩,λ_=>⟨g,fX,wy q.o.size u,d.fresh g u,yu h.o⟩⟩
end
def zk:Maps.Keyed prog 29:=Maps.int_keyed underlying29
def Dn(a:(Lit.int .i64 id).wf=fm):keyOf prog 29 (fY id)=fh (LC id):=by
 simp[keyOf,underlying29,mapKey,a,LC]
def CC(w):(zeroValue 55).run prog w=.ok (fy fj 0 0) w:=by kernel_rfl
theorem hbL(b m p n:Nat)(a)(id:Int)(d)(w:fq)(c1:w.c b 1=fh (.map<|fh m))(c:kE w 29 m n a)(g:(Lit.int .i64 id).wf=fm)(e:a (LC id)=fh (hh d)):
  ik 213 #[ie b,fY id] w (PP (fC #[hh d,fY 0]) w):=by
 have f:=c.look_ok zk underlying265 (Ev w)<|Dn g;rw[e]at f;clear c e;go_enter func213,ntmps213;go_wp2_with(simp only[f]);go_ret2;exact⟨fX,fX⟩
theorem XZ(b m p n:Nat)(a)(id:Int)(c:fq->Prop)(w:fq)(c0:w.c b 0=fh (.func (.func 115) #[ptr p] #[]))(c1:w.c b 1=fh (.map<|fh m))(d:kE w 29 m n a)(g:(Lit.int .i64 id).wf=fm)(f:a (LC id)=fj)
  (FO:ik 115 #[ie p,fY id] w λe O=>e=pD #[hh kq,fY 14]/\c O):
  ik 213 #[ie b,fY id] w λe H=>e=pD #[hh kq,fY 14]/\c H:=by
 have h:=d.look_ok zk underlying265 (Ev w)<|Dn g;rw[f]at h;clear d f;go_enter func213,ntmps213;go_wp2_with(first|(go_at_call 115;refine FO.via λO i=>?_));go_ret2;exact⟨fX,i⟩
theorem hca(b m p n:Nat)(a)(id:Int)(c:fP->fq->Prop)(w:fq)(c0:w.c b 0=fh (.func (.func 115) #[ptr p] #[]))(c1:w.c b 1=fh (.map<|fh m))(g:kE w 29 m n a)(h:(Lit.int .i64 id).wf=fm)(i:a (LC id)=fj)(q:n<maxLen)
  (FO:ik 115 #[ie p,fY id] w λe O=>∃d:fP,e=pD #[hh d,fY 0]/\c d O)
  (r:∀d O,c d O->O.c b 1=fh (.map<|fh m)/\kE O 29 m n a):
  ik 213 #[ie b,fY id] w λe H=>∃d:fP,e=pD #[hh d,fY 0]/\∃O,c d O/\kE H 29 m (n+1) (Fh a (LC id)<|fh (hh d))/\O.grownBy H (fh m)/\H.heap.size=O.heap.size:=by
 have s:=g.look_ok zk underlying265 (Ev w)<|Dn h;rw[i]at s;clear g i;go_enter func213,ntmps213;go_wp2_with(first|(go_at_call 115;refine FO.mono ?_;rintro e O ⟨d,rfl,f⟩;have⟨u,j⟩:=r _ _ f;have⟨v,x,k,l,o⟩:=j.store zk underlying265 q (Dn h) (val:=fA d);have t:fe _:=f;change fe _ at k l o;clear j f));go_ret2;exact⟨d,fX,O,t,k,l,o⟩
def hcd(b m p n:Nat)(a)(id:Int)(c:ig)(d e)(w:fq)(c1:w.c b 1=fh (.map<|fh m))(f:kE w 29 m n a)(i:(Lit.int .i64 id).wf=fm)(g:a (LC id)=fh (fy c d e)):
  ik 217 #[ie b,fY id] w (PP (fC #[fy c d e,fY 0]) w):=by
 have h:=f.look_ok zk underlying269 (CC w)<|Dn i;rw[g]at h;clear f g;go_enter func217,ntmps217;go_wp2_with(simp only[h]);go_ret2;exact⟨fX,fX⟩
theorem Ya(b m p n:Nat)(a)(id:Int)(c:fq->Prop)(w:fq)(c0:w.c b 0=fh (.func (.func 117) #[ptr p] #[]))(c1:w.c b 1=fh (.map<|fh m))(d:kE w 29 m n a)(g:(Lit.int .i64 id).wf=fm)(f:a (LC id)=fj)
  (FO:ik 117 #[ie p,fY id] w λe O=>e=pD #[fy fj 0 0,fY 14]/\c O):
  ik 217 #[ie b,fY id] w λe H=>e=pD #[fy fj 0 0,fY 14]/\c H:=by
 have h:=d.look_ok zk underlying269 (CC w)<|Dn g;rw[f]at h;clear d f;go_enter func217,ntmps217;go_wp2_with(first|(go_at_call 117;refine FO.via λO i=>?_));go_ret2;exact⟨fX,i⟩
theorem hda(b m p n:Nat)(f)(id:Int)(g:ig->Nat->Nat->fq->Prop)(w:fq)(c0:w.c b 0=fh (.func (.func 117) #[ptr p] #[]))(c1:w.c b 1=fh (.map<|fh m))(i:kE w 29 m n f)(j:(Lit.int .i64 id).wf=fm)(k:f (LC id)=fj)(s:n<maxLen)
  (FO:ik 117 #[ie p,fY id] w λe O=>∃a c d,e=pD #[fy a c d,fY 0]/\g a c d O)
  (t:∀a c d O,g a c d O->O.c b 1=fh (.map<|fh m)/\kE O 29 m n f):
  ik 217 #[ie b,fY id] w λe H=>∃a c d,e=pD #[fy a c d,fY 0]/\∃O,g a c d O/\kE H 29 m (n+1) (Fh f (LC id)<|fh (fy a c d))/\O.grownBy H (fh m)/\H.heap.size=O.heap.size:=by
 have u:=i.look_ok zk underlying269 (CC w)<|Dn j;rw[k]at u;clear i k;go_enter func217,ntmps217;go_wp2_with(first|(go_at_call 117;refine FO.mono ?_;rintro e O ⟨a,c,d,rfl,h⟩;have⟨x,l⟩:=t _ _ _ _ h;have⟨y,z,o,q,r⟩:=l.store zk underlying269 s (Dn j) (val:=fy a c d);have v:fe _:=h;change fe _ at o q r;clear l h));go_ret2;exact⟨a,c,d,fX,O,v,o,q,r⟩
theorem Br(a:fK A id≠0):1<=id/\id<=fv A:=by
 grind [absurd,iE]
theorem js.many{N}(a:js N w s p A got brk I):fv A<=400:=by
 have⟨_,ft,_,⟨b,h,c,d,e,f,i⟩,_⟩:=a;exact i.gR.many
theorem js.wf{N}(a:js N w s p A got brk I)(b:fK A id≠0):(Lit.int .i64 id).wf=fm:=by
 have c:=Br b;have d:=a.many
 grind [Ww]
theorem Bo.mono{N}{B}(a:Bo N w i B A kF I)(b:I<=jf):Bo N w i B A kF jf:=by
 have⟨c,n,d,e,r⟩:=a;exact⟨c,n,d,wy e b,r⟩
theorem Bp.mono{N}{B}(a:Bp N w i B A kD I)(b:I<=jf):Bp N w i B A kD jf:=by
 have⟨c,n,d,e,f,r⟩:=a;exact⟨c,n,d,e,wy f b,r⟩
theorem CB.mono{N}{B}(a:CB N w i B of I)(b:I<=jf):CB N w i B of jf:=by
 have⟨c,⟨n,d,r⟩,e⟩:=a;exact⟨c,⟨n,wy d b,r⟩,e⟩
theorem gG.mono{N}{B}(a:gG N w i B od I J)(b:I<=jf):gG N w i B od jf J:=by
 have⟨c,⟨n,d,r⟩,e,f,g⟩:=a;exact⟨c,⟨n,wy d b,r⟩,e,f,g⟩
theorem qB.mono{N}{B}{g}(a:qB N w i p B A g I)(b:I<=jf):qB N w i p B A g jf:=by
 have⟨J,c⟩:=a.qj;exact⟨a.tree,a.nP.mono b,a.nQ.mono b,a.tY.mono b,⟨J,c.mono b⟩,a.files,a.held,a.opens,a.ok⟩
def fZ.mono{N}{B}{g}(a:fZ N w s i p B A g I)(b:I<=jf):fZ N w s i p B A g jf:=⟨a.two,a.st.mono b,a.wp.mono b⟩
theorem qB.fs{N M}{B}{g}{fs':b6}(a:qB N w i p B A g I)(m:fI P N M w H)(b:∀k,k≠2->k≠3->¬P (i,k))(c:I<=jf)
  (hF:Bo M H i B A fs'.kF jf)(d:Bp M H i B A fs'.kD jf):qB M H i p B A { g with fs:=fs' } jf:=by
 have⟨J,e⟩:=a.qj;exact⟨a.tree.moves m<|b 1 (by decide) (by decide),hF,d,(a.tY.moves m<|b 4 (by decide) (by decide)).mono c,⟨J,(e.moves m<|b 5 (by decide) (by decide)).mono c⟩,a.files.moves m<|b 6 (by decide) (by decide),a.held,a.opens.moves m (b 0 (by decide)<|by decide)<|b 7 (by decide) (by decide),a.ok⟩
theorem gY(U:2<=i)(k:Nat):¬Rg (i,k):=by
 rintro(a|a)
 all_goals grind
def gC (i:Nat)(t:Nat×Nat):Prop:=t.1=1\/t=(i,2)\/t=(i,3)
def gC.mine(a:gC i t):Mine i t:=by
 rcases a with a|a|a
 exact .inl a;rw[a];exact .inr fX;rw[a];exact .inr fX
def yx(a:Rg t):gC i t:=by
 rcases a with rfl|rfl
 exact .inl fX;exact .inl fX
theorem QP{N:gF}(a:w.grownBy H (fh b))(h:H.heap.size=w.heap.size)(d:P (N b)):fI P N N w H:=
 ⟨a.os,a.tape,a.output,a.size,λ_ _=>rfl,λk c f=>a.block k c λe=>f (by cases e;exact d),λg k c=>g k<|by omega⟩
section
variable {N:gF}{B:WB}{g:WG}
theorem hdb(a:fZ N w s i p B A g I)(u:I<1099511627776)(v:fK A id=1):
  ik 213 #[ie B.sF,fY id] w λe H=>
   e=pD #[hh<|if(g.fs.gP id).2 then bytesOf A id else kq,fY<|if(g.fs.gP id).2 then 0 else 14]/\∃M,fI (gC i) N M w H/\fZ M H s i p B A { g with fs:=(g.fs.gP id).1 } (I+1):=by
 have o:=a.st.wf (id:=id) (by omega);obtain⟨y,n,j,Q,f,z,R⟩:=a.wp.nP;have c0:w.c B.sF 0=fh (.func (.func 115) #[ptr p] #[]):=by simp[World.cell?,a.wp.tree.hF]
 have c1:w.c B.sF 1=fh (.map<|fh B.mF):=by simp[World.cell?,a.wp.tree.hF]
 by_cases l:g.fs.kF id=fm;have h:g.fs.gP id=(g.fs,fm):=by unfold b6.gP;rw[lv l]
 rw[h];refine(hbL B.sF B.mF p n j id (bytesOf A id) w c1 f o (by grind)).still ?_;exact⟨fX,N,fI.refl _ _ _,a.mono<|jh _⟩;have C:j (LC id)=fj:=by rw[z,km l]
 cases D:g.fs.brk with
 |true=>
  have h:g.fs.gP id=({ g.fs with brk:=fo },fo):=by unfold b6.gP;rw[km l,lv D]
  rw[h];refine(XZ B.sF B.mF p n j id (λH=>∃M,fI Rg N M w H/\js M H s p A g.fs.got fo I) w c0 c1 f o C<|(zj a.st u v).mono ?_).mono ?_
  ·rintro e H ⟨G,rfl,M,m,⟨_,rfl,c⟩|⟨J,_⟩⟩
   all_goals grind
  rintro e H ⟨rfl,M,m,c⟩;exact⟨fX,M,m.mono λt b=>yx b,a.two,c.mono<|jh _,a.wp.fs m (λk _ _=>gY a.two k) (jh _) ((a.wp.nP.moves m<|gY a.two 2).mono<|jh _)<|(a.wp.nQ.moves m (gY a.two 3)).mono (jh _)⟩
 |false=>
  have h:g.fs.gP id=({ g.fs with got:=g.fs.got++[id],kF:=λx=>decide (x=id) ||g.fs.kF x },fm):=by unfold b6.gP;rw[km l,km (by grind)]
  rw[h];refine(hca B.sF B.mF p n j id (λd H=>d=bytesOf A id/\∃M,fI Rg N M w H/\js M H s p A (g.fs.got++[id]) fo (I+1)) w c0 c1 f o C (by unfold maxLen;omega) ((zj a.st u v).mono ?_) ?_).mono ?_
  ·rintro e H ⟨G,rfl,M,m,⟨J,_⟩|⟨_,rfl,c⟩⟩
   all_goals grind
  rintro d O ⟨_,M,m,c⟩;have b:=a.wp.tree.moves m<|gY a.two 1;exact⟨by simp[World.cell?,b.hF],(f.moves m y<|gY a.two 2).1⟩;rintro e H ⟨d,rfl,O,⟨rfl,M,m,c⟩,K,L,P⟩;have E:=(f.moves m y<|gY a.two 2).2;have F:fI (λt=>t=(i,2)) M M O H:=QP L P E;have q:fI (λt=>Rg t\/t=(i,2)) N M w H:=(m.mono λt b=>.inl b).trans (F.mono λt b=>.inr b);have U:=a.two;refine⟨fX,M,q.mono λt b=>b.elim yx λe=>.inr<|.inl e,a.two,?_,a.wp.fs q (λk S _=>?_) (jh _) ?_<|(a.wp.nQ.moves q (by grind [gY])).mono (jh _)⟩;rw[show({ g.fs with got:=g.fs.got++[id],kF:=λx=>decide (x=id) ||g.fs.kF x }:b6).brk=fo from D];exact c.moves F (λe=>by cases e) (λe=>by cases e)
  ·all_goals grind [gY]
  refine⟨E,n+1,_,by omega,K,λx=>?_,λx r=>?_⟩
  ·by_cases r:x=id
   ·all_goals grind [nG]
   rw[jS λe=>r (by injection e),z x];simp[r]
  all_goals grind
theorem jup(a:fZ N w s i p B A g I)(R:I<1099511627776)(j:fK A id=2):
  ik 217 #[ie B.sD,fY id] w λe H=>
   ∃v,e=pD #[v,fY<|if(g.fs.ij id).2 then 0 else 14]/\∃M,fI (gC i) N M w H/\fZ M H s i p B A { g with fs:=(g.fs.ij id).1 } (I+1)/\
    (if(g.fs.ij id).2 then oN M H (i,3) v (fQ A id)else v=fy fj 0 0)/\∀v es k,(k=3\/k=5)->oN N w (i,k) v es->oN M H (i,k) v es:=by
 have K:=a.st.wf (id:=id) (by omega);obtain⟨F,n,G,S,ap,o,T,L⟩:=a.wp.nQ;have c0:w.c B.sD 0=fh (.func (.func 117) #[ptr p] #[]):=by simp[World.cell?,a.wp.tree.hD]
 have c1:w.c B.sD 1=fh (.map<|fh B.mD):=by simp[World.cell?,a.wp.tree.hD]
 by_cases u:g.fs.kD id=fm
 ·have y:g.fs.ij id=(g.fs,fm):=by unfold b6.ij;rw[lv u]
  rw[y];have z:=(L id u).2;obtain⟨c,d,f,V⟩:∃c d f,S id=fy c d f:=by
   rcases z.1.2 with⟨e,_⟩|⟨C,aq,_,e,_⟩
   all_goals grind
  refine(hcd B.sD B.mD p n G id c d f w c1 o K (by grind)).still ?_;exact⟨_,fX,N,fI.refl _ _ _,a.mono<|jh _,by rw[lv fX,<-V];exact z,λ_ _ _ _ a=>a⟩
 have W:G (LC id)=fj:=by rw[T,km u]
 cases X:g.fs.brk with
 |true=>
  have y:g.fs.ij id=({ g.fs with brk:=fo },fo):=by unfold b6.ij;rw[km u,lv X]
  rw[y];refine(Ya B.sD B.mD p n G id (λH=>∃M,fI Rg N M w H/\js M H s p A g.fs.got fo I) w c0 c1 o K W<|(Bq a.st R j).mono ?_).mono ?_
  ·rintro e H ⟨af,v,rfl,V,M,m,⟨_,rfl,q⟩|⟨ag,_⟩,_⟩
   all_goals grind
  rintro e H ⟨rfl,M,m,q⟩;exact⟨_,fX,M,m.mono λt l=>yx l,⟨a.two,q.mono<|jh _,a.wp.fs m (λk _ _=>gY a.two k) (jh _) ((a.wp.nP.moves m<|gY a.two 2).mono<|jh _)<|(a.wp.nQ.moves m (gY a.two 3)).mono (jh _)⟩,fX,λ_ _ k _ r=>r.moves m<|gY a.two k⟩
 |false=>
  have y:g.fs.ij id=({ g.fs with got:=g.fs.got++[id],kD:=λx=>decide (x=id) ||g.fs.kD x },fm):=by unfold b6.ij;rw[km u,km (by grind)]
  rw[y];refine(hda B.sD B.mD p n G id (λc d f H=>∃b,Value.slice c d f=fy (fh<|ii b 0) (fv<|fQ A id) (fv<|fQ A id)/\w.heap.size<=b/\H.ownsRow 0 96 3 (fy c d f) (fv<|fQ A id) (flat<|fQ A id)/\∃M,M b=(0,0)/\fI Rg N M w H/\js M H s p A (g.fs.got++[id]) fo (I+1)) w c0 c1 o K W (by unfold maxLen;omega) ((Bq a.st R j).mono ?_) ?_).mono ?_
  ·rintro e H ⟨af,v,rfl,_,M,m,⟨ag,_⟩|⟨_,rfl,q⟩,r⟩
   all_goals grind
  rintro c d f O ⟨_,_,_,_,M,_,m,q⟩;have l:=a.wp.tree.moves m<|gY a.two 1;exact⟨by simp[World.cell?,l.hD],(o.moves m F<|gY a.two 3).1⟩;rintro e H ⟨c,d,f,rfl,O,⟨b,Y,ar,z,h,ah,m,q⟩,ai,Z,aj⟩;have au:=(o.moves m F<|gY a.two 3).2;have U:=a.two;have av:b<O.heap.size:=gc z (by rw[Y];rfl)
  -- the new row is the prf
  have aa:lG (kY h b (i,3)) O:=λk j=>by rw[xv<|by omega];exact q.fresh k j
  have D:fI Rg N (kY h b (i,3)) w O:=⟨m.os,m.tape,m.output,m.size,λk j=>by rw[xv<|by omega];exact m.tags k j,m.block,λ_=>aa⟩;have ak:js (kY h b (i,3)) O s p A (g.fs.got++[id]) fo (I+1):=q.zi aa λk j=>xv (λe=>by rw[e,ah]at j;cases j) _;have ab:kY h b (i,3) B.mD=(i,3):=(o.moves D F<|gY a.two 3).2;have ac:fI (λt=>t=(i,3)) (kY h b (i,3)) (kY h b (i,3)) O H:=QP Z aj ab;have P:fI (λt=>Rg t\/t=(i,3)) N (kY h b (i,3)) w H:=(D.mono λt l=>.inl l).trans (ac.mono λt l=>.inr l);obtain⟨es1,aw,al⟩:=(o.moves D F<|gY a.two 3).1.isMap;have Q:∀v es k,oN (kY h b (i,3)) O (i,k) v es->oN (kY h b (i,3)) H (i,k) v es:=λv es k r=>r.keep (λC E am=>⟨Z.block C am (λe=>by
   have an:C=B.mD:=by injection e
   rw[an]at E;exact rv r.1 al E.symm),fX⟩)
  have ao:oN (kY h b (i,3)) H (i,3) (fy c d f) (fQ A id):=Q _ _ _ ⟨z,λC E=>by
   rw[Y]at E;obtain rfl:b=C:=by simpa [Value.ownBlock]using E
   exact nu _ _ _⟩
  refine⟨_,fX,_,P.mono λt l=>l.elim yx λe=>.inr<|.inr e,⟨a.two,?_,a.wp.fs P (λk _ ax=>?_) (jh _) ((a.wp.nP.moves P (by grind [gY])).mono<|jh _) ?_⟩,ao,λv es k _ r=>Q _ _ _<|r.moves D (gY a.two k)⟩;rw[show({ g.fs with got:=g.fs.got++[id],kD:=λx=>decide (x=id) ||g.fs.kD x }:b6).brk=fo from X];exact ak.moves ac (λe=>by cases e) (λe=>by cases e)
  ·all_goals grind [gY]
  refine⟨ab,n+1,_,λx=>if x=id then fy c d f else S x,by omega,ai,λx=>?_,λx J=>?_⟩
  ·by_cases J:x=id
   ·all_goals grind [nG]
   rw[jS λe=>J (by injection e),T x];simp[J]
  by_cases ad:x=id
  ·all_goals grind
  show _/\oN _ _ _ (if x=id then _ else _) _;rw[km ad];have ae:g.fs.kD x=fm:=by simpa [ad]using J
  exact⟨(L x ae).1,Q _ _ _<|(L x ae).2.moves D (gY a.two 3)⟩
end
theorem xy(x:fV)(n)(a:fq):ik 190 #[fD #[hh x.1,fY x.2.1,fY x.2.2],hh n] a (ut (fY<|jb x.1 n) a):=by
 have b:=λw=>strings_Compare x.1 n w;go_enter func190,ntmps190;go_wp2_with(go_at_call 191;apply (b _).still);go_ret;exact⟨fX,(mi _ _).alloc (lw _) _⟩
def zU(a:∀j c,(flat es)[j]?=fh c->w.c b j=fh c)(U:i<fv es):
  w.c b (i*3)=fh (fA es[i].1)/\w.c b (i*3+1)=fh (.int .i64 es[i].2.1)/\w.c b (i*3+2)=fh (.int .i64 es[i].2.2):=by
 refine⟨a _ _ ?_,a _ _ ?_,a _ _ ?_⟩
 have:=iK es i 0 U<|by decide
 simpa [pA]using this
 have:=iK es i 1 U<|by decide
 simpa [pA]using this
 have:=iK es i 2 U<|by decide
 simpa [pA]using this
def FP (es:List fV)(n:fP)(lo U:Nat):Prop:=(∀j(a:j<fv es),j<lo->jb es[j].1 n<0)/\(∀j(a:j<fv es),U<=j->¬jb es[j].1 n<0)
theorem SL{n}(d:k<=fv es)(c:FP es n k k):ub es n=k:=by
 unfold ub;have e:=(KP k es).symm;rw[e,List.countP_append,List.countP_eq_length.2 (by
  intro x a;obtain⟨j,b,rfl⟩:=rD a;rw[kV]at b;rw[List.getElem_take];exact qu<|c.1 j (by omega) (by omega)),List.countP_eq_zero.2 (by
  intro x a;obtain⟨j,b,rfl⟩:=rD a;rw[rG]at b;rw[List.getElem_drop];simpa using c.2 (k+j) (by omega) (by omega)),kV]
 omega
theorem CD(c:fO es){a b:Nat}(d:b<fv es)(e:a<b):jb (es[a]'(by omega)).1 es[b].1<0:=Ri.1 c a b (by omega) d e
theorem kme(b h:Nat)(es)(n)(w:fq)(A:b<w.heap.size)(B:∀j d,(flat es)[j]?=fh d->w.c b j=fh d)(C:fO es)(Q:fv es<=16):
  ik 189 #[my b 0 (fv es) h,hh n,.func (.func 190) #[] #[]] w (ut (fC #[fY (ub es n:Nat),fE<|kB es n]) w):=by
 have J:Aside (∀j d,(flat es)[j]?=fh d->w.c b j=fh d):=B;have D:Aside (fO es):=C;clear B C;go_enter func189,ntmps189;go_wp2
 go_loopg [9,10] (fv es) (λK L M wr=>∃lo U:Nat,L=.int .i64 lo/\M=.int .i64 U/\lo<=U/\U<=fv es/\U-lo<=K/\Aside (ju w wr)/\Aside (FP es n lo U))
 case atStart=>exact⟨0,fv es,rfl,rfl,zt _,lw _,by omega,mi _ _,(⟨λj _ f=>absurd f<|Rv _,λj R N=>absurd N<|by omega⟩:FP es n 0 (fv es))⟩
 case round=>
  obtain⟨lo,U,rfl,rfl,S,E,T,c,r⟩:=hrel;have V:b<wr.heap.size:=np A c.out.size;have cells:∀i(U:i<fv es),wr.c b (i*3)=fh (fA es[i].1)/\wr.c b (i*3+1)=fh (.int .i64 es[i].2.1)/\wr.c b (i*3+2)=fh (.int .i64 es[i].2.2):=λi U=>zU (λj d O=>(c.cell (p:=(ii b j)) A).trans<|J j d O) U;have F:Aside _:=cells;clear cells;by_cases W:lo<U
  ·have⟨s,t,u⟩:=F ((lo+U) / 2) (by omega)
   generalize l:es[(lo+U) / 2]'(by omega)=y at s t u;have g:Aside (es[(lo+U) / 2]'(by omega)=y):=l;clear l;by_cases q:jb y.1 n<0
   ·go_wp2_with(go_at_call 190;refine(xy y n _).via λH m=>?_)
    go_roundg (U-((lo+U) / 2+1))
    case measure=>omega
    case rel=>
     have v:Aside (FP es n ((lo+U) / 2+1) U):=⟨λj G P=>by
      by_cases e:j=(lo+U) / 2;subst e;rw[g.out];exact q
      have:=CD D (a:=j) (b:=(lo+U) / 2) (by omega)<|by omega
      rw[g.out]at this;exact pE this q,r.2⟩
     exact⟨(lo+U) / 2+1,U,by rw[show((lo:Int)+(U:Int)) / 2+1=(((lo+U) / 2+1:Nat):Int) by omega],fX,by omega,E,lw _,c.trans<|m.mono c.size,v⟩
   go_wp2_with(go_at_call 190;refine(xy y n _).via λH m=>?_)
   go_roundg ((lo+U) / 2-lo)
   case measure=>omega
   case rel=>
    have v:Aside (FP es n lo<|(lo+U) / 2):=⟨r.1,λj G P f=>by
     by_cases e:j=(lo+U) / 2;subst e;rw[g.out]at f;omega
     have:=CD D (a:=(lo+U) / 2) (b:=j) G<|by omega
     rw[g.out]at this
     have:=pE this f
     omega⟩
    exact⟨lo,(lo+U) / 2,fX,by rw[show((lo:Int)+(U:Int)) / 2=(((lo+U) / 2:Nat):Int) by omega],by omega,by omega,lw _,c.trans<|m.mono c.size,v⟩
  obtain rfl:U=lo:=by omega
  have k:=SL E r;by_cases I:U<fv es
  ·have⟨s,t,u⟩:=F U I
   generalize l:es[U]=y at s t u;have g:Aside (es[U]=y):=l;clear l;have o:kB es n=decide (jb y.1 n=0):=by
    unfold kB;rw[k,jH I,g.out];show decide (y.1=n)=_;by_cases e:y.1=n;rw[e,jc];simp;rw[yv e,yv λf=>e<|Cp f]
   have x:Aside (ub es n=U):=k;have z:Aside (kB es n=decide (jb y.1 n=0)):=o;clear k o;by_cases q:jb y.1 n=0
   all_goals
    go_wp2_with(go_at_call 190;refine(xy y n _).via λH m=>?_);go_ret2;exact⟨by rw[x.out,z.out];simp[q],c.out.trans<|m.mono c.out.size⟩
  have o:kB es n=fo:=by
   unfold kB;rw[k,wm<|by omega];rfl
  have x:Aside (ub es n=U):=k;have z:Aside (kB es n=fo):=o;clear k o;go_wp2;go_ret2;exact⟨by rw[x.out,z.out];rfl,c⟩
theorem SM(b h:Nat)(es)(n)(w:fq)(g:b<w.heap.size)(c:∀j d,(flat es)[j]?=fh d->w.c b j=fh d)(e:fO es)(f:fv es<=16):
  ik 133 #[my b 0 (fv es) h,hh n] w (ut (fC #[fY (ub es n:Nat),fE<|kB es n]) w):=by
 have a:=kme b h es n w g c e f;generalize ub es n=k at a |-;generalize kB es n=l at a |-;clear c e f;go_enter func133,ntmps133;go_wp2_with(go_at_call 189;refine a.via λH i=>?_);go_ret2;exact⟨fX,i⟩
def kmi(n)(w:fq):ik 189 #[fy fj 0 0,hh n,.func (.func 190) #[] #[]] w (PP (fC #[fY 0,fE fo]) w):=by
 go_enter func189,ntmps189;go_wp2;apply wp_loop_rounds 1;rw[rounds_succ];go_wp2;go_ret2;exact⟨fX,fX⟩
def SN(n)(w:fq):ik 133 #[fy fj 0 0,hh n] w (PP (fC #[fY 0,fE fo]) w):=by
 go_enter func133,ntmps133;go_wp2_with(go_at_call 189;apply (kmi n _).still);go_ret2;exact⟨fX,fX⟩
theorem iG(a:w.ownsRow 0 96 3 v (fv es) (flat es))(n)(b:fO es)(c:fv es<=16):
  ik 133 #[v,hh n] w (ut (fC #[fY (ub es n:Nat),fE<|kB es n]) w):=by
 rcases a.2 with⟨rfl,d⟩|⟨g,h,k,rfl,_,e,_⟩
 have:=DY.1 d
 subst this;apply (SN n w).still;exact⟨fX,mi _ _⟩;refine SM g h es n w (lW.1 e).1 (λj f i=>?_) b c
 have:=ks a j f i
 rwa [iO]at this
def Bt{a}(b:Good a):keyOf prog 147 (fD<|jn a)=fh (qi prog a):=nt b.val
def hdc(t)(a b c d Z e)(k id:Int)(w:fq)(f:k≠2):
  ik 187 #[ie t,fD<|ml a b c d Z,fD #[hh e,fY k,fY id]] w (ut (fC #[fy fj 0 0,fY 5]) w):=by
 go_enter func187,ntmps187;go_wp2;go_ret2;exact⟨fX,((mi _ _).alloc (lw _) _).alloc (by simp) _⟩
theorem hdf(t m:Nat)(a b c d Z f)(v:fu)(w:fq)(h:t<w.heap.size)(i:w.c t 8=fh (.map<|fh m))
  (g:∀e,ju w e->(Instr.lookup 162 (.map<|fh m) (fD<|ml a b c d Z) fo).run prog e=.ok v e):
  ik 187 #[ie t,fD<|ml a b c d Z,fD #[hh f,fY 2,fY 0]] w (ut (fC #[v,fY 0]) w):=by
 have j:=g _<|il (((mi w.heap.size w).alloc (lw _)<|.cells (ml a b c d Z) 147).alloc (by simp)<|.cells #[hh f,fY 2,fY 0] 96);clear g;go_enter func187,ntmps187;go_wp2
 go_region
 all_goals
  go_wp2;go_ret2;exact⟨fX,il<|((mi _ _).alloc (lw _) _).alloc (by simp) _⟩
theorem hdj(t d:Nat)(f g h i Z j)(id:Int)(k:fu->Int->fq->fq->Prop)(w:fq)(q:t<w.heap.size)(c2:w.c t 2=fh (ie d))(hid:id≠0)
  (l:∀b,ju w b->ik 217 #[ie d,fY id] b λe H=>∃v a,e=pD #[v,fY a]/\k v a b H):
  ik 187 #[ie t,fD<|ml f g h i Z,fD #[hh j,fY 2,fY id]] w λe H=>∃v a b,ju w b/\e=pD #[v,fY a]/\k v a b H:=by
 have c:=il<|((mi w.heap.size w).alloc (lw _) (.cells (ml f g h i Z) 147)).alloc (by simp) (.cells #[hh j,fY 2,fY id] 96);have n:=l _ c;have o:fe _:=c;clear l c;go_enter func187,ntmps187;go_wp2
 go_region_with(go_at_call 217;refine n.mono ?_;rintro e O ⟨v,a,rfl,m⟩;have p:fe _:=m;clear m)
 all_goals
  go_wp2;go_ret2;exact⟨v,a,_,o,fX,p⟩
