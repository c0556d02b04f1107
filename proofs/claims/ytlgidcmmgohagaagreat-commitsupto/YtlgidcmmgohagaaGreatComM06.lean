/- A part of the proof. -/
import Derived.Test.YtlgidcmmgohagaaGreatComM05
set_option linter.all false
namespace Go.Proofs.YtlgidcmmgohagaaGreat
open Go.RowKit Go.Sort Go.Shelf Go.Proofs.Tryz
open Go.Value renaming slice->fy,string->fA,pointer->fB,tuple->fC,agg->fD,bool->fE
open Go.Ending renaming returned->fF
open Option renaming some->fh,none->fj
open Bool renaming true->fm,false->fo
open Go renaming World->fq,Value->fu
open List renaming length->fv,reverse->fx
open Go.RowKit renaming Hid->fe
set_option maxRecDepth 100000
set_option maxHeartbeats 0
variable {ea la:ig}{a0 a1 a2 a3 a4 u v:fu}{N b c ec g gl j m n q z:Nat}{Z tk:List Ob}{M:Int}{w H O w2 w3 w4:fq}{xs:iN}{es:List fV}{t:lV}{hs:List ox}
variable {ft:PTp}{F I R b6 FH:Nat->Prop}{t tl T tt:lV}{z ec q W s r k c m i n h:Nat}{w H wr w0:fq}{ea la a:ig}{hs vs:List ox}{A J:List Ob}{c5 c6 c7 c8 c9 c10 c11:fu}{E:Option Nat}{cs:Array fu}{ys:iN}{ops:Array Oper}{rest:List Oper}{o:Oper}{act:Act}{Q:Exit->Act->fq->Prop}{x y:Operand}
def qh (n:Nat)(V:iN):iN:=(List.replicate n V).flatten
def uw (t:lV)(z:Nat)(V:iN)(w:fq)(a:ox):Prop:=w.ownsRow 0 t z (qL a) a.2.1<|qh a.2.1 V
def aaf (la:ig)(c b:Nat)(a:ox):Prop:=(a.1=la/\a.2.2=c)\/(∃g,a.1=fh ⟨g,0,fj⟩/\b<=g)
def rW (t tl:lV)(z:Nat)(V:iN)(i:Nat)(w H:fq)(W q:Nat)(cs:Array fu)(ea:ig)(ec:Nat)(la:ig)(m c:Nat)(hs:List ox):Prop:=
 ∃(a c4:Nat) (b d e:ox),H.heap[W]?=fh (.cells (cs.setIfInBounds i<|fy (fh ⟨a,0,fj⟩) (4*q+4) c4) 71 (0,0))/\
  H.ownsRow 0 tl 1 (fy (fh ⟨a,0,fj⟩) (4*q+4) c4) (4*q+4) ((hs++[(la,m,c),b,d,e]).map qL)/\b.2.1=m+1/\d.2.1=m+2/\e.2.1=m+3/\
  (∀f∈[((la,m,c):ox),b,d,e],uw t z V H f/\aaf la c w.heap.size f)/\
  ((fh a:Option Nat)=(Value.slice ea (4*q) ec).ownBlock\/w.heap.size<=a)/\
  fH (λx=>x=W\/fh x=(Value.slice ea (4*q) ec).ownBlock\/fh x=(Value.slice la m c).ownBlock) w H
structure zf (F:Nat->Prop)(t tl:lV)(z:Nat)(V:Nat->iN)(w:World)(ea:ig)(ec q:Nat)(hs:List ox):Prop where
 len:hs.length=4*q
 row:w.ownsRow 0 tl 1 (.slice ea (4*q) ec) (4*q) (hs.map qL)
 own:∀g,(Value.slice ea (4*q) ec).ownBlock=some g->F g
 lists:∀i (hi:i<hs.length),hs[i].2.1<=1000000000/\uw t z (V (i / 4)) w hs[i]/\∀g,(qL hs[i]).ownBlock=some g->F g
 lt:∀k,F k->k<w.heap.size
theorem XC{n m c d}:(Value.slice la n c).ownBlock=(Value.slice la m d).ownBlock:=by cases la<;>rfl
section
variable {V:Nat->iN}
theorem zf.keep(a:zf F t tl z V w ea ec q hs)(c:∀k,F k->H.heap[k]?=w.heap[k]?)(d:w.heap.size<=H.heap.size):zf F t tl z V H ea ec q hs:=
 ⟨a.len,gg a.row λg b=>c g<|a.own g b,a.own,λi U=>⟨(a.lists i U).1,gg (a.lists i U).2.1 λg b=>c g<|(a.lists i U).2.2 g b,(a.lists i U).2.2⟩,λk e=>np (a.lt k e) d⟩
theorem zf.next{W i}{cs}(b:zf F t tl z V w ea ec q hs)(B:t≠tl)(h:rW t tl z (V q) i w H W q cs ea ec la m c hs)(U:¬F W)
  (Lv:∀g,(Value.slice la m c).ownBlock=fh g->¬F g/\g<w.heap.size)(X:m+3<=1000000000):
  ∃l c4 C,H.heap[W]?=fh (.cells (cs.setIfInBounds i<|my l 0 (4*(q+1)) c4) 71 (0,0))/\zf (λk=>F k\/fh k=(Value.slice la m c).ownBlock\/(w.heap.size<=k/\k<H.heap.size)) t tl z V H (fh<|ii l 0) c4 (q+1) C/\fH (λx=>x=W\/F x\/fh x=(Value.slice la m c).ownBlock) w H:=by
 obtain⟨l,c4,D,E,G,I,o,Y,Z,aa,J,K,f⟩:=h;have p:=f.size;refine⟨l,c4,_,I,⟨?_,o,?_,?_,?_⟩,f.os,f.tape,f.output,p,λk L M=>f.block k L λe=>M<|e.imp_right (Or.imp_left λe=>b.own k e.symm)⟩;simp[b.len];omega;intro g a;simp only[Value.ownBlock,pV]at a;subst a;rcases K with e|e
 exact .inl<|b.own _ e.symm;exact .inr<|.inr ⟨e,gc o fX⟩;intro j N;by_cases r:j<fv hs;rw[KN r];obtain⟨O,s,u⟩:=b.lists j r;refine⟨O,gg s λx n=>f.block x (b.lt x<|u x n) ?_,λg a=>.inl<|u g a⟩;rintro(e|e|e)
 grind
 exact IR s b.row B n e
 grind
 obtain⟨d,rfl⟩:∃d,j=fv hs+d:=⟨j-fv hs,by omega⟩;have ab:d<4:=by simp at N;omega
 rw[List.getElem_append_right<|by omega];have P:(fv hs+d) / 4=q:=by rw[b.len];omega
 simp only[Nat.add_sub_cancel_left,P];have ac:∀x∈[((la,m,c):ox),D,E,G],x.2.1<=1000000000->x.2.1<=1000000000/\uw t z (V q) H x/\∀g,(qL x).ownBlock=fh g->F g\/fh g=(Value.slice la m c).ownBlock\/(w.heap.size<=g/\g<H.heap.size):=λx n Q=>by
  obtain⟨v,R⟩:=J x n;refine⟨Q,v,λg a=>.inr ?_⟩;rcases R with⟨y,A⟩|⟨S,y,A⟩
  exact .inl (by grind [qL,XC]);have T:S=g:=by
   unfold qL at a;rw[y]at a;exact rF a
  subst T;exact .inr ⟨A,gc v a⟩
 grind
 rintro k (h|h|h);exact np (b.lt k h) p
 all_goals grind
end
def VE (i:Nat):iN:=pA<|mkQ i
abbrev Held (FH:Nat->Prop)(w:World)(ea:ig)(ec q:Nat)(hs:List ox):Prop:=zf FH 96 55 3 VE w ea ec q hs
theorem W3.block(a:W3 ft I R b6 w W s r A J c5 c6 c7 c8 c9 c10 c11):∃a0 a1 a2 a3 a4,w.heap[W]?=fh (.cells #[a0,a1,a2,a3,a4,c5,c6,c7,c8,c9,c10,c11] 71 (0,0)):=by
 obtain⟨_,_,_,_,_,_,_,b,_⟩:=a.law;exact⟨_,_,_,_,_,b.hW⟩
theorem Jv(a:W3 ft I R b6 w W s r A J c5 c6 c7 c8 (fy ea (4*q) ec) c10 c11)(C:Held FH w ea ec q hs)(p:∀k,FH k->¬F3 I R b6 k)(ac:m<=16)
  (Lv:∀g,(Value.slice la m m).ownBlock=fh g->¬F3 I R b6 g/\¬FH g/\g<w.heap.size)(D:w.heap[W]?=fh (.cells #[a0,a1,a2,a3,a4,c5,c6,c7,c8,fy ea (4*q) ec,c10,c11] 71 (0,0)))
  (b:rW 96 55 3 (VE q) 9 w H W q #[a0,a1,a2,a3,a4,c5,c6,c7,c8,fy ea (4*q) ec,c10,c11] ea ec la m m hs):
  ∃i u x j,W3 ft I R b6 H W s r A J c5 c6 c7 c8 (fy u (4*(q+1)) x) c10 c11/\Held i H u x (q+1) j/\(∀k,i k->¬F3 I R b6 k)/\(∀k,i k->FH k\/w.heap.size<=k\/fh k=(Value.slice la m m).ownBlock)/\
   fH (λk=>k=W\/FH k\/fh k=(Value.slice la m m).ownBlock) w H:=by
 have fW:I W:=by obtain⟨_,_,_,_,_,_,_,c,_⟩:=a.law;exact c.fw
 obtain⟨y,c4,j,E,F,l⟩:=C.next (by decide) b (λf=>p W f<|.inl fW) (λg h=>(Lv g h).2) (by omega);have keep:∀k,F3 I R b6 k->k<w.heap.size->k≠W->H.heap[k]?=w.heap[k]?:=λk z G K=>l.block k G (by
  rintro(e|e|e);exact K e;exact p k e z;exact(Lv k e.symm).1 z)
 have L:mE I H W s r (fv A) c5 c6 c7 c8 (my y 0 (4*(q+1)) c4) c10 c11:=by
  obtain⟨M,N,O,P,Q,S,T,c,U⟩:=a.law;have row:∀{t:lV}{v:fu}{n:Nat}{xs:iN},w.ownsRow 0 t 1 v n xs->71≠t->(∀g,v.ownBlock=fh g->I g)->H.ownsRow 0 t 1 v n xs:=λo V f=>gg o λg h=>keep g (.inl<|f g h) (gc o h) λe=>io o c.hW V (by grind);refine⟨M,N,O,P,Q,S,T,⟨c.fw,?_,row c.rP (by decide) c.fi,row c.uh (by decide) c.fk,row c.uj (by decide) c.fp,c.fi,c.fk,c.fp⟩,U⟩;have e:=D.symm.trans c.hW;simp only[pV,Obj.cells.injEq,Array.mk.injEq,Cc,Eg]at e;obtain⟨X,Y,Z,aa,ab⟩:=e;rw[E,X,Y,Z,aa,ab];rfl
 have B:∀k,R k\/b6 k->k≠W:=λk b e=>by
  rcases b with d|d
  exact(a.sep.rl k d).2<|e▸fW;exact(a.sep.sl k d).2<|e▸fW
 refine⟨_,fh<|ii y 0,c4,j,⟨L,a.ref.keep (λ_ a=>a) λk b=>keep k (.inr<|.inl b) (a.sep.rl k b).1<|B k (.inl b),iL.keep a.wI (λ_ a=>a) λk b=>keep k (.inr<|.inr b) (a.sep.sl k b).1<|B k (.inr b),a.twin,a.at_,a.sep.below l.size⟩,F,?_,?_,l⟩;rintro k (b|b|b) f
 grind
 grind
 have:k<w.heap.size:=by
  rcases f with d|d|d
  exact a.sep.ll k d;exact(a.sep.rl k d).1;exact(a.sep.sl k d).1
 omega
 grind
def vF (ft:PTp)(I R b6 FH:Nat->Prop)(w H:fq)(W s r q:Nat)(c5 c6 c7 c8 c10 c11:fu):Prop:=
 ∃a b Y c Z tk d e f,W3 ft a b Y H W s r Z tk c5 c6 c7 c8 (fy d (4*q) e) c10 c11/\Held c H d e q f/\(∀k,c k->¬F3 a b Y k)/\
  zP I R b6 a b Y w.heap.size/\(∀k,c k->FH k\/w.heap.size<=k)/\fH (λk=>F3 I R b6 k\/FH k) w H
theorem Be(d:W3 ft I R b6 w W s r A J c5 c6 c7 c8 (fy ea (4*q) ec) c10 c11)(c:Held FH w ea ec q hs)(g:∀k,FH k->¬F3 I R b6 k)(h:Stepped ft I R b6 w H W s r c5 c6 c7 c8 (fy ea (4*q) ec) c10 c11):vF ft I R b6 FH w H W s r q c5 c6 c7 c8 c10 c11:=by
 obtain⟨i,j,Y,Z,tk,l,f,a⟩:=h;refine⟨i,j,Y,FH,Z,tk,ea,ec,hs,l,c.keep (λk b=>a.block k (c.lt k b)<|g k b) a.size,λk b m=>?_,f,λk n=>.inl n,⟨a.os,a.tape,a.output,a.size,λk o p=>a.block k o λd=>p<|.inl d⟩⟩;rcases f.all k m with e|e
 grind
 have:=c.lt k b
 omega
theorem oy(n)(V):fv (qh n V)=n*fv V:=by simp[qh,List.length_flatten]
theorem ux(n m:Nat)(V:iN):qh (n+m) V=qh n V++qh m V:=by unfold qh;rw[<-List.replicate_append_replicate,List.flatten_append]
theorem Sn(V):qh 1 V=V:=by simp[qh]
theorem fla{V:iN}(n)(b:∀u∈V,u.oneCell'=fm):∀u∈qh n V,u.oneCell'=fm:=λu a=>by
 have⟨l,c,a⟩:=List.mem_flatten.1 a
 rw[List.eq_of_mem_replicate c]at a
 exact b u a
theorem Vv{xs ys:iN}(d:w.ownsRow b t z (my g 0 n c) n (xs++ys))(e:fv xs=m*z)(p:m<=n):w.ownsRow b t z (my g 0 m c) m xs:=by
 have⟨q,f⟩:=d;rcases f with⟨a,_⟩|⟨r,h,i,a,j,k,s,l,o,u⟩
 cases a;cases a;refine⟨e,.inr ⟨g,c,i,fX,j,k,by omega,l,o,?_⟩⟩
 grind [List.take,List.take_left,EI,EG]
def Room (w H:fq)(la:ig)(c:Nat)(a:fu)(n:Nat):Prop:=
 (w.grownBy H fj/\∃g h,a=fy (fh ⟨g,0,fj⟩) n h/\w.heap.size<=g)\/(∃g,la=fh ⟨g,0,fj⟩/\a=fy (fh ⟨g,0,fj⟩) n c/\w.grownBy H (fh g))
theorem Ek{P:Program}{ops:Array Oper}{rest:List Oper}{o:Oper}{a:Act}{Q:Exit->Act->fq->Prop}(D:o.guard=fj)(s x:Operand)(t:lV)
  (E:o.op=.call { callee:=.builtin .append,args:=#[s,x],argTypes:=#[t,t] })
  (e:lV)(i:TypeInfo)(z:fu)(bytes:Nat)(V:iN)(q:P.underlying t=fh (.slice e))(U:P.info? e=fh i)(F:i.zero=fh z)
  (r:i.size=fv V)(G:i.bytes=bytes)(I:z.cells.size=fv V)(l:0<fv V)(W:∀u∈V,u.oneCell'=fm)
  (la:ig)(n c)(hs:a.eval s=fy la n c)(v:w.ownsRow 0 e (fv V) (fy la n c) n (qh n V))
  (f:Addr)(m p:Nat)(af:0<m)(J:a.eval x=fy (fh f) m p)(y:∀j u,(qh m V)[j]?=fh u->w.cell? (f.add j)=fh u)
  (K:n+m<=maxLen)(L:(n+m)*bytes<=140737488355328)
  (M:∀k H,H.ownsRow 0 e (fv V) k (n+m) (qh (n+m) V)->Room w H la c k (n+m)->wpList P ops Q rest (a.put o.dst k) H):wpList P ops Q (o::rest) a w:=by
 have A:=oy m V;have B:=fla m W;have grow:c<n+m->(la=fj->n=0/\c=0)->(∀b,la=fh b->∀j u,(qh n V)[j]?=fh u->w.cell? (b.add j)=fh u)->wpList P ops Q (o::rest) a w:=λX Y Z=>by
  apply wpList_append_grows w D s x t E e i z (fv V) bytes q U F r G I l la n c (qh n V) hs Y (oy n V) Z f m p (qh m V) J A y B X K L;intro k H d C;rw[<-ux]at d;obtain⟨g,h,rfl⟩:=hZ d (by omega);exact M _ H (tB d<|zt _)<|.inl ⟨C,g,h,fX,(d.lt g fX).1⟩
 rcases v.2 with⟨d,ag⟩|⟨g,h,aa,d,N,C,ah,ai,ab,aj⟩
 grind
 cases d;by_cases O:n+m<=c;have⟨k,H,R,S,ac,_⟩:=sec (P:=P) w 0 t o.type e i z (fv V) bytes q U F r G I l _ n _ v f m p (qh m V) A y B K L<|zt _;have T:=run_append_room (P:=P) w t o.type e i q U g n c aa C f m p (qh m V) (by grind) y B O (by rw[r,A,ab,<-Nat.add_mul];exact EG _ O);rw[R]at T;have ad:=(Result.ok.inj T).1;subst ad;rw[<-ux]at S;refine WL D λ_ ae=>?_
 unfold Oper.wp;simp[execOp,E,resolve,invoke,builtin,hs,J,R,Result.andThen];exact ae _ _<|M _ H S (.inr ⟨g,fX,fX,ac⟩);exact grow (by omega) (λl=>by cases l) (λb N=>by cases N;exact v.cells (g:=g) fX)
structure nL (t:lV)(V:iN)(w:World)(la:ig)(k c:Nat)(wr:World)(vs:List ox):Prop where
 keeps:fH (fun x=>some x=(Value.slice la k c).ownBlock) w wr
 all:∀h∈(la,k,c)::vs,uw t V.length V wr h/\aaf la c w.heap.size h/\h.2.1<=k+vs.length
 old:∀g,la=some ⟨g,0,none⟩->g<w.heap.size
section
variable {V:iN}
def nL.row(a:nL t V w la k c wr vs)(o):(wr.alloc o).ownsRow 0 t (fv V) (fy la k c) k (qh k V):=rE (a.all _<|oK ..).1 _
theorem nL.next(f:nL t V w la k c wr vs){o}{m}{d:fq}(p:d.ownsRow 0 t (fv V) m n (qh n V))(q:Room (wr.alloc o) d la c m n)(H:n=k+fv vs+1):∃i j,m=fy i n j/\nL t V w la k c d (vs++[(i,n,j)])/\wr.heap.size<d.heap.size:=by
 have I:=f.keeps.size;obtain⟨i,j,rfl,B⟩:∃i j,m=fy i n j/\aaf la c w.heap.size (i,n,j):=by
  rcases q with⟨_,g,h,rfl,a⟩|⟨g,rfl,rfl,_⟩
  exact⟨fh<|ii g 0,h,fX,.inr ⟨g,fX,by simp at a;omega⟩⟩;exact⟨fh<|ii g 0,c,fX,.inl ⟨fX,fX⟩⟩
 have C:∀own,(wr.alloc o).grownBy d own->(∀x,fh x=own->fh x=(Value.slice la k c).ownBlock)->wr.heap.size<d.heap.size/\fH (λx=>fh x=(Value.slice la k c).ownBlock) w d:=λown a D=>by
  have hs:=a.size;simp at hs;refine⟨by omega,a.os.trans f.keeps.os,a.tape.trans f.keeps.tape,a.output.trans f.keeps.output,by omega,λx b v=>?_⟩;rw[a.block x (by simp;omega) λe=>v<|D x e,sG _ _ _<|by omega];exact f.keeps.block x b v
 have z:wr.heap.size<d.heap.size/\fH (λx=>fh x=(Value.slice la k c).ownBlock) w d:=by
  rcases q with⟨a,_⟩|⟨g,rfl,_,a⟩
  grind
  exact C _ a (λx b=>by rw[b];rfl)
 refine⟨i,j,fX,⟨z.2,λx b=>?_,f.old⟩,z.1⟩;rw[<-Eb]at b;rcases qw.1 b with b|b
 have⟨E,A,F⟩:=f.all x b;refine⟨?_,A,by simp;omega⟩;have hs:(wr.alloc o).ownsRow 0 t (fv V) (qL x) x.2.1 (qh x.2.1 V):=rE E _;rcases q with⟨a,_⟩|⟨g,rfl,G,a⟩
 exact gg hs λy r=>a.block y (gc hs r) (by simp);rcases A with⟨s,u⟩|⟨J,s,u⟩
 have⟨K,l,L⟩:=x;simp only at s u F;subst s;subst u;rw[G,show n=l+(n-l) by omega,ux]at p;exact Vv p (oy _ _) (show l<=l+(n-l) by omega);have M:=f.old g fX;refine gg hs λy r=>a.block y (gc hs r) λe=>?_
 grind [qL,Value.ownBlock,pV]
 rw[oa.1 b];exact⟨p,B,by simp;omega⟩
end
structure iF (t:lV)(V:iN)(w:World)(la:ig)(m c:Nat)(wr:World)(k:Nat):Prop where
 keeps:fH (fun x=>some x=(Value.slice la m c).ownBlock) w wr
 row:∃rest:iN,rest.length=(m-k)*V.length/\wr.ownsRow 0 t V.length (.slice la m c) m (qh k V++rest)
 old:∀g,la=some ⟨g,0,none⟩->g<w.heap.size
section
variable {V:iN}
theorem iF.first(a:w.ownsRow 0 t (fv V) (fy la m c) m xs)(b:ju w wr):iF t V w la m c wr 0:=
 ⟨fH.fJ b,⟨xs,by rw[Nat.sub_zero];exact a.1,gg a λx d=>b.block x<|gc a d⟩,λg e=>by subst e;exact gc a fX⟩
theorem iF.cells(d:iF t V w la m c wr k)(f:k<m):∃g,la=fh (ii g 0)/\g<wr.heap.size/\g<w.heap.size/\(∀j,wr.frozen? (ii g j)=fo)/\∀j,j<fv V->∃v,wr.cell? (ii g<|k*fv V+j)=fh v:=by
 have⟨rest,l,a⟩:=d.row;have⟨g,n,h⟩:=hZ a (by omega);have i:=(lK h).1;subst i;have e:∀j,j<fv V->k*fv V+j<m*fv V:=λj b=>np (by rw[Ry];omega:k*fv V+j<(k+1)*fv V)<|EG _ f;refine⟨g,fX,gc a fX,d.old g fX,λj=>a.frozenAt j,λj b=>?_⟩;rw[a.cellAt _<|e j b];exact⟨_,jH (by rw[a.1];exact e j b)⟩
theorem iF.done(a:iF t V w la m c wr m):nL t V w la m c wr []:=by
 have⟨rest,b,d⟩:=a.row;rw[EK,cwd]at b;rw[KL b,lJ]at d;refine⟨a.keeps,λx e=>?_,a.old⟩;rw[oa.1 e];exact⟨d,.inl ⟨fX,fX⟩,lw _⟩
theorem uy{z g N b}{a rest:iN}{x:fu}(c:wr.ownsRow 0 t z (my g 0 N b) N (a++x::rest))(v)(d:j=fv a):(wr.setCell (ii g j) v).ownsRow 0 t z (my g 0 N b) N ((a++[v])++rest):=by
 subst d
 have:=(c.stored (fv a) v).1
 grind
theorem pJ(a:fH (λx=>fh x=(Value.slice (fh<|ii g 0) N c).ownBlock) w wr):fH (λx=>fh x=(Value.slice (fh<|ii g 0) N c).ownBlock) w (wr.setCell (ii g j) v):=
 ⟨a.os,a.tape,a.output,by simpa using a.size,λx d b=>by rw[vh _ _ _ _ λe=>b (by rw[e];rfl)];exact a.block x d b⟩
theorem iF.aaQ(b:iF t [v] w (fh<|ii g 0) m c wr k)(e:k<m):iF t [v] w (fh<|ii g 0) m c (wr.setCell (ii g k) v) (k+1):=by
 have⟨rest,a,d⟩:=b.row
 match rest,a,d with
 |[],a,_=>simp at a;omega
 |x::r,a,d=>
  refine⟨pJ b.keeps,⟨r,by simp at a |-;omega,?_⟩,b.old⟩
  grind [ux,Sn,uy,oy]
theorem iF.aaR(b:iF t [u,v] w (fh<|ii g 0) m c wr k)(e:k<m):iF t [u,v] w (fh<|ii g 0) m c ((wr.setCell (ii g<|k*2) u).setCell (ii g<|k*2+1) v) (k+1):=by
 have⟨rest,a,d⟩:=b.row
 match rest,a,d with
 |[],a,_=>simp at a;omega
 |[_],a,_=>(rw[BX,lq,BX]at a;omega)
 |x::y::r,a,d=>
  refine⟨pJ<|pJ b.keeps,⟨r,by simp at a |-;omega,?_⟩,b.old⟩
  have:=uy (uy d u (by rw[oy])) v (j:=k*2+1) (by rw[lI,oy];rfl)
  grind [ux,Sn]
theorem iF.aaS{u v y:fu}(b:iF t [u,v,y] w (fh<|ii g 0) m c wr k)(e:k<m):iF t [u,v,y] w (fh<|ii g 0) m c (((wr.setCell (ii g<|k*3) u).setCell (ii g<|k*3+1) v).setCell (ii g<|k*3+2) y) (k+1):=by
 have⟨rest,a,d⟩:=b.row
 match rest,a,d with
 |[],a,_=>simp at a;omega
 |[_],a,_=>simp at a;omega
 |[_,_],a,_=>simp at a;omega
 |_::_::_::r,a,d=>
  refine⟨pJ<|pJ (pJ b.keeps),⟨r,by simp at a |-;omega,?_⟩,b.old⟩
  have:=uy (uy (uy d u (by rw[oy])) v (j:=k*3+1) (by rw[lI,oy];rfl)) y (j:=k*3+2) (by simp[oy])
  grind [ux,Sn]
structure jU (tl:lV)(W i:Nat)(w0:World)(aaT:Option Nat)(cs:Array Value)(wr:World)(a:ig)(n cap:Nat)(ys:iN):Prop where
 ib:i<cs.size
 hW:wr.heap[W]?=some (.cells (cs.setIfInBounds i (.slice a n cap)) 71 (0,0))
 row:wr.ownsRow 0 tl 1 (.slice a n cap) n ys
 loc:∀g,(Value.slice a n cap).ownBlock=some g->some g=aaT\/w0.heap.size<=g
 keeps:fH (fun x=>x=W\/some x=aaT) w0 wr
theorem jU.first(b:w0.heap[W]?=fh (.cells cs 71 (0,0)))(U:cs[i]?=fh (fy a n h))(row:w0.ownsRow 0 tl 1 (fy a n h) n ys):jU tl W i w0 (Value.slice a n h).ownBlock cs w0 a n h ys:=by
 have⟨c,d⟩:=lW.1 U;have e:cs.setIfInBounds i (fy a n h)=cs:=Array.ext (by simp) λj k l=>by
  rw[Array.getElem_setIfInBounds];split
  rename_i e
  subst e;exact d.symm;rfl
 exact⟨c,by rw[e];exact b,row,λg f=>.inl f.symm,fH.refl _⟩
theorem jU.cells(b:jU tl W i w0 E cs wr a n h ys):W<wr.heap.size/\wr.c W i=fh (fy a n h)/\wr.frozen? (ii W i)=fo:=by
 have:=b.ib
 exact⟨(lW.1 b.hW).1,by simp[World.cell?,b.hW,this],by simp[World.frozen?,b.hW]⟩
theorem jU.next(c:jU tl W i w0 E cs wr a n h ys)(l:71≠tl){o}{y v:fu}(m:O.ownsRow 0 tl 1 v N (ys++[y]))(p:(wr.alloc o).grownBy O (Value.slice a n h).ownBlock)(q:v.ownBlock=(Value.slice a n h).ownBlock\/v.ownBlock=fh b)(r:wr.heap.size<=b)(s:N=n+1):
  ∃g d,v=(my g 0 N d)/\(W<O.heap.size/\O.c W i=fh (fy a n h)/\O.frozen? (ii W i)=fo)/\jU tl W i w0 E cs (O.setCell (ii W i)<|my g 0 N d) (fh<|ii g 0) N d (ys++[y]):=by
 subst s;obtain⟨g,d,rfl⟩:=hZ m (by omega);obtain⟨t,u,w,f⟩:=jk (i:=i) c.hW c.row l (PH _ _) (by simp) ⟨fX,fX,fX⟩ m p q r;have k:=mW c.hW (PH _ _) (by simp) p<|io c.row c.hW l;refine⟨g,d,fX,⟨(lW.1 k).1,by simp[World.cell?,k,c.ib],by simp[World.frozen?,k]⟩,c.ib,by simpa using t,u,λx j=>?_,⟨f.os.trans c.keeps.os,f.tape.trans c.keeps.tape,f.output.trans c.keeps.output,wy c.keeps.size f.size,λx j z=>(f.block x (np j c.keeps.size) ?_).trans<|c.keeps.block x j z⟩⟩;simp only[Value.ownBlock,pV]at j;subst j;rcases w with e|e
 exact c.loc _ e.symm;exact .inr<|wy c.keeps.size e;rintro(e|e);omega;rcases c.loc x e.symm with A|A
 all_goals grind
def Ih (T t:lV)(V:iN):Prop:=∃z b,prog.underlying T=fh (.slice t)/\(∀u∈V,u.oneCell'=fm)/\(prog.info? t).map (λi=>(i.zero,i.size,i.bytes))=fh (fh z,fv V,b)/\z.cells.size=fv V/\0<fv V/\b<=1000
theorem nL.wp(g:fe (nL t V w la k c wr vs))(h:Ih T t V)(i:o.guard=fj)(f:o.op=.call { callee:=.builtin .append,args:=#[x,y],argTypes:=#[T,T] })(hs:act.eval x=fy la k c)(j:act.eval y=my wr.heap.size 0 m m)(I:m=fv vs+1)(J:k<=1000000000/\m<=9)(l:H=wr.alloc (.cells (qh m V).toArray tt))
  (n:∀d e a,wr.heap.size<a.heap.size->fe (nL t V w la k c a<|vs++[(d,k+m,e)])->wpList prog ops Q rest (act.put o.dst<|fy d (k+m) e) a):wpList prog ops Q (o::rest) act H:=by
 subst l;have⟨z,b,p,q,r,s,u,v⟩:=h;have⟨A,U,B,C,D⟩:=kC r;refine Ek i x y T f t A z b V p U B C D s u q la k c hs (g.o.row _) _ m m (by omega) j (Xu wr _ _) (by unfold maxLen;omega) (wy (Nat.mul_le_mul (show k+m<=1000000009 by omega) v)<|by decide) ?_;intro K a f E;obtain⟨d,e,rfl,F,G⟩:=g.o.next f E (by omega);exact n d e a G F
theorem jU.wp{e}(f:fe (jU tl W i w0 E cs wr a n h ys))(j:71≠tl)(k:Ih T tl [fy fj 0 0])(l:u.oneCell'=fm)(P:n<=4000000009)(m:o.guard=fj)(d:o.op=.call { callee:=.builtin .append,args:=#[x,y],argTypes:=#[T,T] })(hs:act.eval x=fy a n h)(p:act.eval y=my e 0 1 1)(q:e=wr.heap.size)(r:H=wr.k #[u] tt)
  (s:∀g c O,W<O.heap.size->O.c W i=fh (fy a n h)->O.frozen? (ii W i)=fo->fe (jU tl W i w0 E cs (O.setCell (ii W i)<|my g 0 (n+1) c) (fh<|ii g 0) (n+1) c<|ys++[u])->wpList prog ops Q rest (act.put o.dst<|my g 0 (n+1) c) O):wpList prog ops Q (o::rest) act H:=by
 subst r;have⟨z,b,t,R,v,w,_,A⟩:=k;have⟨B,C,D,F,G⟩:=kC v;refine yn m x y T d 0 tl B z 1 b t C D F G w (by decide) _ _ ys hs (rE f.o.row _) _ 1 1 [u] p fX (one_cell _ _ _ _ q) (by simp[l]) (by unfold maxLen;omega) (wy (Nat.mul_le_mul (show n+1<=4000000010 by omega) A)<|by decide) (zt _) ?_;intro S O d I J;obtain⟨g,c,rfl,⟨K,L,M⟩,N⟩:=f.o.next j d I J (by simp) fX;exact s g c O K L M N
theorem NY{q m j c4:Nat}{H wc}{d f g:ox}(b:nL t V w la m c wc [d,f,g])(o:wc.heap[W]?=fh (.cells cs 71 (0,0)))(row:wc.ownsRow 0 tl 1 (fy ea (4*q) ec) (4*q) (hs.map qL))(p:t≠tl)(r:71≠t)
  (a:jU tl W i wc (Value.slice ea (4*q) ec).ownBlock cs H (fh<|ii j 0) (4*q+1+1+1+1) c4 (hs.map qL++[qL (la,m,c),qL d,qL f,qL g]))(s:d.2.1=m+1)(u:f.2.1=m+2)(v:g.2.1=m+3):rW t tl (fv V) V i w H W q cs ea ec la m c hs:=by
 refine⟨j,c4,d,f,g,a.hW,by simpa using a.row,s,u,v,λx z=>?_,(a.loc j fX).imp id<|wy b.keeps.size,⟨a.keeps.os.trans b.keeps.os,a.keeps.tape.trans b.keeps.tape,a.keeps.output.trans b.keeps.output,wy b.keeps.size a.keeps.size,λk l A=>?_⟩⟩;have⟨h,B,_⟩:=b.all x z;refine⟨gg h λy n=>a.keeps.block y (gc h n) ?_,B⟩;rintro(e|e);exact io h o r (by grind);exact IR h row p n e;rw[a.keeps.block k (np l b.keeps.size) (by grind)];exact b.keeps.block k l λe=>A<|.inr (.inr e)
theorem zR(b:w.ownsRow 0 t (fv V) (fy la m c) m xs)(a:w.heap[W]?=fh (.cells cs 71 (0,0)))(row:w.ownsRow 0 tl 1 (fy ea n ec) n ys)(h:71≠t)(i:tl≠t)(d:nL t V w la m c wr vs):wr.heap[W]?=fh (.cells cs 71 (0,0))/\wr.ownsRow 0 tl 1 (fy ea n ec) n ys:=⟨(d.keeps.block W (lW.1 a).1 λe=>io b a h e).trans a,gg row λg f=>d.keeps.block g (gc row f) λe=>IR row b i f e⟩
theorem NZ(V:iN)(b:w.heap[W]?=fh (.cells cs 71 (0,0)))(row:w.ownsRow 0 tl 1 (fy ea n ec) n ys)(a:w.ownsRow 0 t (fv V) (fy la m c) m xs)(h:71≠t)(i:tl≠t):
  iF t V (w.k V.toArray t) la m c (w.k V.toArray t) 0/\ju w (w.k V.toArray t)/\(∀wr,fH (λx=>fh x=(Value.slice la m c).ownBlock) (w.k V.toArray t) wr->w.heap.size<wr.heap.size/\∀j v,V[j]?=fh v->wr.c w.heap.size j=fh v)/\(∀g,la=fh (ii g 0)->g<w.heap.size)/\
   ∀{wr vs},nL t V (w.k V.toArray t) la m c wr vs->wr.heap[W]?=fh (.cells cs 71 (0,0))/\wr.ownsRow 0 tl 1 (fy ea n ec) n ys:=by
 have d:ju w (w.k V.toArray t):=(mi _ _).alloc (lw _) _;have f:=a.alloc<|.cells V.toArray t;refine⟨iF.first f<|mi _ _,d,λwr k=>?_,λg l=>by subst l;exact gc a fX,λo=>zR f ((d.block W (lW.1 b).1).trans b) (row.alloc<|.cells V.toArray t) h i o⟩;have p:=k.block w.heap.size (by simp) (λe=>by have:=gc a e.symm;omega)
 grind [nX,lW,World.cell?]
theorem rW.fJ(a:ju w O)(e:rW t tl z V i O H W q cs ea ec la m c hs):rW t tl z V i w H W q cs ea ec la m c hs:=by
 have⟨f,c4,h,j,k,l,n,o,p,r,b,s,u⟩:=e;exact⟨f,c4,h,j,k,l,n,o,p,r,λx d=>⟨(b x d).1,(b x d).2.imp id λ⟨g,v,y⟩=>⟨g,v,wy a.size y⟩⟩,s.imp id<|wy a.size,u.after a⟩
end
def thd:(prog.info? 121).map (λi=>(i.zero,i.size,i.bytes))=fh (fh<|fy fj 0 0,1,24):=by kernel_rfl
theorem Sp:∀u∈[Value.string kq,fY M],u.oneCell'=fm:=by intro u a;simp at a;rcases a with rfl|rfl<;>rfl
theorem Sq:∀u∈[Value.string kq,fY M,fY 0],u.oneCell'=fm:=by intro u a;simp at a;rcases a with rfl|rfl|rfl<;>rfl
def VC (q:Nat):iN:=[fA ⟨#[]⟩,.int .i64<|-1000-(q:Int)]
theorem zS(W q:Nat)(cs:Array fu)(ea:ig)(ec m c:Nat)(la)(hs:List ox)(xs:iN)(w:fq)(h:w.heap[W]?=fh (.cells cs 71 (0,0)))(X:4*q<=1000000000)(r:m<=1000000000):
  (cs[10]?=fh (fy ea (4*q) ec)->w.ownsRow 0 121 1 (fy ea (4*q) ec) (4*q) (hs.map qL)->w.ownsRow 0 133 2 (fy la m c) m xs->ik 56 #[fB<|fh (ii W 8),fy la m c] w λe H=>e=pD #[]/\rW 133 121 2 (VC q) 10 w H W q cs ea ec la m c hs)/\
  (cs[9]?=fh (fy ea (4*q) ec)->w.ownsRow 0 55 1 (fy ea (4*q) ec) (4*q) (hs.map qL)->w.ownsRow 0 96 3 (fy la m c) m xs->ik 44 #[fB<|fh (ii W 8),fy la m c] w λe H=>e=pD #[]/\rW 96 55 3 (VE q) 9 w H W q cs ea ec la m c hs):=by
 have Y:W<w.heap.size:=(lW.1 h).1;have Z:((4*q:Nat):Int) / 4=(q:Int):=by omega
 have aa:(4*(q:Int)) / 4=(q:Int):=by omega
 constructor
 case' left=>
  intro l row n;have o:Ih 121 133 [hh kq,fY<|-1000-(q:Int)]:=⟨_,_,underlying121,Sp,dep,fX,by simp,by decide⟩;have j:Ih 66 121 [fy fj 0 0]:=⟨_,_,underlying66,yj,thd,fX,by simp,by decide⟩;have E:w.c W 10=fh (fy ea (4*q) ec):=by simp[World.cell?,h,l]
  have b:fe _:=NZ [hh kq,fY<|-1000-(q:Int)] h row n (by decide) (by decide);obtain⟨d,s⟩:∃d:fq->Nat->Prop,d=iF 133 [hh kq,fY<|-1000-(q:Int)] (w.k #[hh kq,fY<|-1000-(q:Int)] 133) la m c:=⟨_,fX⟩
 case' right=>
  intro l row n;have o:Ih 55 96 [hh kq,fY<|-1000-(q:Int),fY 0]:=⟨_,_,underlying55,Sq,Vr,fX,by simp,by decide⟩;have j:Ih 65 55 [fy fj 0 0]:=⟨_,_,underlying65,yj,tcp,fX,by simp,by decide⟩;have E:w.c W 9=fh (fy ea (4*q) ec):=by simp[World.cell?,h,l]
  have b:fe _:=NZ [hh kq,fY<|-1000-(q:Int),fY 0] h row n (by decide) (by decide);obtain⟨d,s⟩:∃d:fq->Nat->Prop,d=iF 96 [hh kq,fY<|-1000-(q:Int),fY 0] (w.k #[hh kq,fY<|-1000-(q:Int),fY 0] 96) la m c:=⟨_,fX⟩
 all_goals
  have t:fe _:=s;clear n row s
  first|go_enter func56,ntmps56|go_enter func44,ntmps44
  go_wp2
  go_loopw [5] (λi wr=>∃k:Nat,k<=m/\i=.int .i64 (k:Int)/\fe (d wr k)) (λi _=>m-(intOf i).toNat)
  case atStart=>exact⟨0,zt _,rfl,by rw[t.o];exact b.o.1⟩
  case round=>
   obtain⟨k,ab,rfl,f⟩:=hrel;rw[t.o]at f;obtain⟨ac,a⟩:=b.o.2.2.1 wr f.o.keeps;have ad:=a 0 _ fX;have ae:=a 1 _ fX
   try have af:=a 2 _ fX
   clear a;by_cases u:k<m
   ·obtain⟨g,rfl,ag,ah,ai,p⟩:=f.o.cells u
    have aj:(k:Int)<(m:Int):=(by omega);obtain⟨ak,F⟩:=p 0 (by simp);obtain⟨al,G⟩:=p 1<|by simp
    try refine Exists.elim (p 2<|lw 3) λam I=>?_
    simp only[lq,zy,iO,Ee,Nat.reduceAdd]at F G
    try simp only[lq,zy,iO,Nat.reduceAdd]at I
    have an:g≠w.heap.size:=λe=>by have:=b.o.2.2.2.1 g fX;omega
    clear p;go_wp2;go_roundw
    case rel=>exact⟨k+1,by omega,by go_num,by rw[t.o];first|exact f.o.aaR u|exact f.o.aaS u⟩
    case measure=>simp[intOf];omega
   have J:k=m:=by omega
   subst J;have z:fe _:=f.o.done;have ao:((k:Int)<(k:Int))=False:=by simp
   have ap:=z.o.keeps.size;go_wp2_with(at_builtin;refine nL.wp z o fX fX fX fX fX ⟨r,by decide⟩ fX ?_);intro aq ar K au A;obtain⟨av,a⟩:=b.o.2.2.1 K A.o.keeps;have aw:=a 0 _ fX;have ax:=a 1 _ fX
   try have ay:=a 2 _ fX
   clear a;go_wp2_with(at_builtin;refine nL.wp A o fX fX fX fX fX ⟨r,by decide⟩ fX ?_);intro az aA L aB B;obtain⟨aC,a⟩:=b.o.2.2.1 L B.o.keeps;have aD:=a 0 _ fX;have aE:=a 1 _ fX
   try have aF:=a 2 _ fX
   clear a;go_wp2_with(at_builtin;refine nL.wp B o fX fX fX fX fX ⟨r,by decide⟩ fX ?_);intro aG aH wc aI v;obtain⟨aJ,a⟩:=b.o.2.2.1 wc v.o.keeps;have aK:=a 0 _ fX;have aL:=a 1 _ fX
   try have aM:=a 2 _ fX
   clear a;obtain⟨x,y⟩:=b.o.2.2.2.2 v.o;have C:fe _:=jU.first x l y
   have D:fe _:=And.intro x y;clear x y;obtain⟨aN,M,f0⟩:=C.o.cells;go_wp2_with(at_builtin;refine jU.wp C (by decide) j fX (by omega) fX fX fX fX (by simp) fX ?_);intro aO c1 O aP N f1 P;clear M f0;go_wp2_with(at_builtin;refine jU.wp P (by decide) j fX (by omega) fX fX fX fX (by simp) fX ?_);intro aQ c2 w2 aR Q f2 R;clear N f1;go_wp2_with(at_builtin;refine jU.wp R (by decide) j fX (by omega) fX fX fX fX (by simp) fX ?_);intro aS c3 w3 aT S f3 T;clear Q f2;go_wp2_with(at_builtin;refine jU.wp T (by decide) j fX (by omega) fX fX fX fX (by simp) fX ?_);intro aU c4 w4 aV aW f4 U;clear S f3;have V:fe _:=rW.fJ b.o.2.1<|NY v.o D.o.1 D.o.2 (by decide) (by decide) U.o fX fX fX;go_wp2;go_end0;exact⟨fX,V.o⟩
theorem thm(a:Program)(W)(x y:fV)(b:(binOp .eql t (fD #[hh x.1,fY x.2.1,fY x.2.2])<|fD #[hh y.1,fY y.2.1,fY y.2.2]).run a W=(if x.fst.toList=y.fst.toList then
   if x.snd.fst=y.snd.fst then
    if x.snd.snd=y.snd.snd then Result.ok (Value.bool fm) W else Result.ok (Value.bool fo) W
   else Result.ok (Value.bool fo) W
  else Result.ok (Value.bool fo) W)):(binOp .eql t (fD #[hh x.1,fY x.2.1,fY x.2.2])<|fD #[hh y.1,fY y.2.1,fY y.2.2]).run a W=.ok (fE<|decide (x=y)) W:=by
 rw[b];by_cases e:x=y
 all_goals grind [yv,absurd,HA,wL]
def flb(W)(x y:fV):(binOp .eql 96 (fD #[hh x.1,fY x.2.1,fY x.2.2])<|fD #[hh y.1,fY y.2.1,fY y.2.2]).run prog W=.ok (fE<|decide (x=y)) W:=by
 apply thm _ W x y
 go_simp
theorem fma(a:W3 ft I R b6 w W s r A J c5 c6 c7 c8 c9 c10 c11)(j:Nat)(b:j<fv A):
  ik 37 #[ie W,fY (j:Int),fY<|(j:Int)+1] w λe H=>e=fF (fE fm)/\W3 ft (kA I w H) R b6 H W s r A J c5 c6 c7 c8 c9 c10 c11/\fH I w H:=Cw a.law a.ref a.wI a.sep a.at_ a.twin (lw _) b (λc _ _ i d f=>by omega)
theorem XD{F}(a:iL ft F w s A)(x:Int)(b:fK A x≠2):
  ik 43 #[ie s,fY x] w (ut (fC #[fy fj 0 0,fY 13]) w):=by
 refine(AZ a x).mono λe H⟨c,d⟩=>⟨?_,d⟩;rcases c with⟨_,f⟩|⟨j,g,h,i,_⟩
 exact f;rw[h,xa g]at b;omega
theorem Oa(W s r)(A J)(c5 c6 c7 c8 c9 c10 c11:fu)(x:Int)(c:fK A x≠2):∃d e:Int,e≠2/\∀{I R b6:Nat->Prop}(w:fq),W3 ft I R b6 w W s r A J c5 c6 c7 c8 c9 c10 c11->
  ik 41 #[ie W,fY x] w ((PP (fY d) w))/\ik 42 #[ie W,fY d] w ((PP (fY e) w)):=by
 by_cases f:x<1\/(fv A:Int)<x;exact⟨-1,0,by decide,λw a=>⟨zQ a x f,Jd (-1)<|by decide⟩⟩;obtain⟨j,rfl⟩:∃j:Nat,x=(j:Int)+1:=⟨(x-1).toNat,by omega⟩;have b:j<fv A:=by omega
 rw[xa b]at c;exact⟨j,A[j].kind,c,λw a=>⟨rV a j b,Bd a j b⟩⟩
theorem Oc(f:W3 ft I R b6 w W s r A J c5 c6 c7 c8 (fy ea (4*q) ec) c10 c11)(j:Held FH w ea ec q hs)(y:∀k,FH k->¬F3 I R b6 k)(U:4*q<=1000000000)(a1 N a3:Int)(V T)(la:ig)(X Y)(n:fK A N≠2):
  ik 20 #[ie W,fD #[fY 4,fY a1,fY N,fY a3,hh V,hh T,fy la X Y]] w λe H=>e=fF (fE fm)/\vF ft I R b6 FH w H W s r (q+1) c5 c6 c7 c8 c10 c11:=by
 have⟨am,an,o,Z⟩:=f.law.cells;have⟨z,B,C,D,E,p⟩:=f.block;have t:∀a,ju w (w.alloc a):=λa=>(mi _ _).alloc (lw _) _;have h:∀a b,Below (w.alloc a).heap.size (w.alloc a) b->ju w b:=λa b d=>(t a).trans<|d.mono (by simp);have hid:=λa=>Fy (f.below<|t a) N;have F:=λa=>XD (f.below<|t a).wI N n;obtain⟨ao,aa,G,u⟩:=Oa W s r A J c5 c6 c7 c8 (fy ea (4*q) ec) c10 c11 N n;have K:=λa b(d:Below (w.alloc a).heap.size (w.alloc a) b)=>(u b (f.below<|h a b d)).1;have L:=λa b(d:Below (w.alloc a).heap.size (w.alloc a) b)=>(u b (f.below<|h a b d)).2;have M:=λ(e:Int)(ab:fq)=>iR e ab;have O:=λa b(d:Below (w.alloc a).heap.size (w.alloc a) b)=>(zS W q #[z,B,C,D,E,c5,c6,c7,c8,fy ea (4*q) ec,c10,c11] ea ec 0 0 fj hs [] b (((h a b d).block W o).trans p) U (by omega)).2 fX (gg j.row λg v=>(h a b d).block g<|gc j.row v)<|kO _ _ _ _;have ac:fe (∀a b x,Below (w.alloc a).heap.size (w.alloc a) b->rW 96 55 3 (VE q) 9 b x W q #[z,B,C,D,E,c5,c6,c7,c8,fy ea (4*q) ec,c10,c11] ea ec fj 0 0 hs->vF ft I R b6 FH w x W s r (q+1) c5 c6 c7 c8 c10 c11):=λa b x d i=>by
  have c:=h a b d;have⟨ad,ae,af,ag,ah,ai,aj,ak,l⟩:=Jv (f.below c) (j.keep (λk i=>c.block k<|j.lt k i) c.size) y (zt _) (λg v=>by cases v) ((c.block W o).trans p) i;refine⟨I,R,b6,ad,A,J,ae,af,ag,ah,ai,aj,zP.refl,λk e=>?_,⟨l.os.trans c.os,l.tape.trans c.tape,l.output.trans c.output,wy c.size l.size,λk i P=>?_⟩⟩;rcases ak k e with e|e|e
  exact .inl e;exact .inr<|wy c.size e;cases e;rw[l.block k (np i c.size) ?_];exact c.block k i;rintro(e|e|e);exact P<|.inl (.inl<|e▸Z);exact P<|.inr e;cases e
 have ap:(aa==2)=fo:=by simpa using G
 change fe _ at hid F K L M O
 clear f j y u p n G;go_enter func20,ntmps20;go_wp2_with(first
  |(go_at_call 39;refine Calls.still (hid _) ?_)
  |(go_at_call 43;refine Calls.via (F _) λw2 m=>?_;have aq:=np o (h _ _ m).size)
  |(go_at_call 41;refine Calls.still (K _ _ m) ?_)
  |(go_at_call 42;refine Calls.still (L _ _ m) ?_)
  |(go_at_call 22;refine Calls.still (M _ _) ?_)
  |(go_at_call 44;refine Calls.via (O _ _ m) λw4 Q=>?_;have S:=ac _ _ _ m Q;clear Q;have al:fe _:=S;clear S))
 go_ret;exact⟨fX,al⟩
theorem W3.items(c:W3 ft I R b6 w W s r A J c5 c6 c7 c8 c9 c10 c11)(j:Nat)(m:j<fv A)(n:A[j].kind=2):∃g h d e,w.c r 0=fh (my g 0 (fv A) h)/\r<w.heap.size/\g<w.heap.size/\
  w.c g (j*4+2)=fh (fy d A[j].gh.length e)/\w.ownsRow 0 112 3 (fy d A[j].gh.length e) A[j].gh.length (flat<|A[j].gh.map gH):=by
 have o:=c.few;have f:=(c.twin.2.1 j m<|by omega).gh n;have⟨a,h,b⟩:=c.ref;have i:j<fv J:=by omega
 obtain⟨g,rfl,p,q,t,u,v⟩:=mV b.row fX i;have k:=b.zz _<|kN i;have l:A[j].gh.length=J[j].el:=by rw[<-k.len,f,oI]
 refine⟨g,h,J[j].ea,J[j].ec,?_,b.lt,p,?_,?_⟩;rw[<-o.2];exact b.c0;rwa [l];rw[l,<-f];exact k.row
theorem W3.aaU(b:W3 ft I R b6 w W s r A J c5 c6 c7 c8 c9 c10 c11)(j:Nat)(d:j<fv A)(f:A[j].kind=2):A[j].gh.length<=16/\∀e∈A[j].gh,1<=e.2.2/\e.2.2<=(j:Int):=by
 have m:=b.few;have g:=(b.twin.2.1 j d<|by omega).gh f;have n:=b.at_ j (by omega);have⟨a,h,i⟩:=b.ref;have k:j<fv J:=by omega
 have c:=i.zz _<|kN k;have l:A[j].gh.length=J[j].el:=by rw[<-c.len,g,oI]
 refine⟨by rw[l];exact c.few,λe o=>?_⟩
 grind [Int,gH,DZ]
theorem W3.ids(b:W3 ft I R b6 w W s r A J c5 c6 c7 c8 c9 c10 c11)(i:Nat)(U:i<fv A):∃g c,w.c W 2=fh (my g 0 (fv A) c)/\g<w.heap.size/\w.c g i=fh (fY<|(i:Int)+1):=by
 have⟨h,_,_,d,_,_,_,a,_⟩:=b.law;obtain⟨g,rfl,e,f,_⟩:=row_one a.rP (i:=i) (v:=.int .i64<|(i:Int)+1) (by simp[encI,Fu U]);refine⟨g,d,?_,e,f⟩
 have:=a.c2
 rwa [jK]at this
theorem Sr{w2 w3 wr w4}(i:W3 ft I R b6 w W s r A J c5 c6 c7 c8 (fy ea (4*q) ec) c10 c11)(j:Held FH w ea ec q hs)(l:∀k,FH k->¬F3 I R b6 k)(p:m<=16)
  (f:ju w w2)(K:w.heap.size<=gl/\gl<w2.heap.size)(t:W3 ft (kA I w2 w3) R b6 w3 W s r A J c5 c6 c7 c8 (fy ea (4*q) ec) c10 c11)(d:fH I w2 w3)(hbr:ju w3 wr)
  (u:wr.heap[W]?=fh (.cells #[a0,a1,a2,a3,a4,c5,c6,c7,c8,fy ea (4*q) ec,c10,c11] 71 (0,0)))(b:rW 96 55 3 (VE q) 9 wr w4 W q #[a0,a1,a2,a3,a4,c5,c6,c7,c8,fy ea (4*q) ec,c10,c11] ea ec (fh<|ii gl 0) m m hs):
  vF ft I R b6 FH w w4 W s r (q+1) c5 c6 c7 c8 c10 c11:=by
 have L:=d.size;have M:=hbr.size;have fW:I W:=by obtain⟨_,_,_,_,_,_,_,v,_⟩:=i.law;exact v.fw
 have n:∀k,F3 I R b6 k->k<w.heap.size:=λk b=>by
  rcases b with a|a|a
  exact i.sep.ll k a;exact(i.sep.rl k a).1;exact(i.sep.sl k a).1
 have x:∀k,FH k->¬F3 (kA I w2 w3) R b6 k:=λk b c=>by
  have:=j.lt k b
  rcases c with(a|a)|a|a
  exact l k b<|.inl a
  have:=a.1
  omega;exact l k b<|.inr (.inl a);exact l k b<|.inr (.inr a)
 have y:Held FH wr ea ec q hs:=j.keep (λk b=>by
  have:=j.lt k b
  rw[hbr.block k<|by omega,d.block k (by omega) λc=>l k b<|.inl c,f.block k this])<|by omega
 obtain⟨z,B,C,D,E,F,G,N,h⟩:=Jv (la:=fh<|ii gl 0) (m:=m) (t.below hbr) y x p (λg H=>by
  obtain rfl:gl=g:=by simpa [Value.ownBlock]using H
  refine⟨λc=>?_,λc=>by have:=j.lt gl c;omega,by omega⟩;rcases c with(a|a)|a|a
  have:=n gl<|.inl a
  omega
  have:=a.1
  omega
  have:=n gl<|.inr (.inl a)
  omega
  have:=n gl<|.inr (.inr a);omega) u b
 refine⟨kA I w2 w3,R,b6,z,A,J,B,C,D,E,F,G,λk=>⟨λa=>?_,.inl,.inl⟩,λk e=>?_,⟨h.os.trans<|hbr.os.trans (d.os.trans f.os),h.tape.trans<|hbr.tape.trans (d.tape.trans f.tape),h.output.trans<|hbr.output.trans (d.output.trans f.output),by have:=h.size;omega,λk b o=>?_⟩⟩
 ·rcases a with a|a
  all_goals grind
 ·all_goals grind [Value.ownBlock]
 rw[h.block k (by omega) ?_,hbr.block k<|by omega,d.block k (by omega) λc=>o<|.inl (.inl c),f.block k b];rintro(e|e|e);exact o<|.inl (.inl<|e▸fW)
 all_goals grind [Value.ownBlock]
theorem Ss{gl m a}(e:W3 ft I R b6 w W s r A J c5 c6 c7 c8 c9 c10 c11)(b:w2.ownsRow a 96 3 (my gl 0 m m) m (flat es))(f:ju w w2)(g:W3 ft (kA I w2 w3) R b6 w3 W s r A J c5 c6 c7 c8 c9 c10 c11)(c:fH I w2 w3)(j:w.heap.size<=a:=by simp):
  w3.ownsRow 0 96 3 (my gl 0 m m) m (flat es)/\∃w2,ju w w2/\(w.heap.size<=gl/\gl<w2.heap.size)/\W3 ft (kA I w2 w3) R b6 w3 W s r A J c5 c6 c7 c8 c9 c10 c11/\fH I w2 w3:=by
 have⟨k,d⟩:=b.lt gl fX;refine⟨gg (tB b<|zt _) λx h=>?_,w2,f,⟨by omega,d⟩,g,c⟩;obtain rfl:gl=x:=by simpa [Value.ownBlock]using h
 exact c.block gl d (λi=>by have:=e.sep.ll gl i;omega)
theorem Su(b:W3 ft I R b6 w W s r A J c5 c6 c7 c8 (fy ea (4*q) ec) c10 c11)(L:Held FH w ea ec q hs)(ab:∀k,FH k->¬F3 I R b6 k)(aN:4*q<=1000000000)(a1 a3:Int)(aO T)(la:ig)(aP aQ)(j:Nat)(y:j<fv A)(D:A[j].kind=2):
  ik 20 #[ie W,fD #[fY 4,fY a1,fY<|(j:Int)+1,fY a3,hh aO,hh T,fy la aP aQ]] w λe H=>e=fF (fE fm)/\vF ft I R b6 FH w H W s r (q+1) c5 c6 c7 c8 c10 c11:=by
 have⟨aR,aS,bu,bv⟩:=b.law.cells;have⟨ac,ad⟩:=b.aaU j y D;have aT:=b.few.1;have z:∀a,ju w (w.alloc a):=λa=>(mi _ _).alloc (lw _) _;have E:∀a f,Below (w.alloc a).heap.size (w.alloc a) f->ju w f:=λa f c=>(z a).trans<|c.mono (by simp);have hid:=λa=>Fy (b.below<|z a)<|(j:Int)+1;have M:=λa=>Jq (b.below<|z a).wI j y D;have ae:=λa f(c:Below (w.alloc a).heap.size (w.alloc a) f)=>rV (b.below<|E a f c) j y;have Q:=λa f(c:Below (w.alloc a).heap.size (w.alloc a) f)=>Bd (b.below<|E a f c) j y;rw[D]at Q;have af:=λa f(c:Below (w.alloc a).heap.size (w.alloc a) f)=>fma (b.below<|E a f c) j y;have ag:=λ(e:Int)(aU:fq)=>iR e aU;have N:fe (∀{I R b6:Nat->Prop}(w:fq),W3 ft I R b6 w W s r A J c5 c6 c7 c8 (fy ea (4*q) ec) c10 c11->_):=λw b=>W3.items b j y D;have ar:fe (∀{I R b6:Nat->Prop}(w:fq),W3 ft I R b6 w W s r A J c5 c6 c7 c8 (fy ea (4*q) ec) c10 c11->∀i,i<fv A->_):=λw b i U=>W3.ids b i U;have au:fe (W3 ft I R b6 w W s r A J c5 c6 c7 c8 (fy ea (4*q) ec) c10 c11):=b;obtain⟨es,av⟩:=ol<|A[j].gh;rw[<-av]at M ac ad N;have⟨m,ah⟩:=ol<|fv es;rw[<-ah]at M ac N;obtain⟨n,aw⟩:=ol<|fv A;rw[<-aw]at N ar aT;have bw:(j:Int)<(n:Int):=by omega
 have bx:j<n:=by omega
 change fe _ at L ab ah ad hid M ae Q ag af E
 clear b av aw D y;go_enter func20,ntmps20;go_wp2_with(first
  |(go_at_call 39;refine Calls.still (hid _) ?_)
  |(go_at_call 43;apply RK<|M _;rintro _ w2 ⟨gl,rfl,ax,l⟩;have ay:fe _:=ax;clear ax;have az:fe (ju w w2):=E _ _ l)
  |(go_at_call 41;refine Calls.still (ae _ _ l) ?_)
  |(go_at_call 42;refine Calls.still (Q _ _ l) ?_)
  |(go_at_call 22;refine Calls.still (ag _ _) ?_)
  |(go_at_call 37;refine Calls.via (af _ _ l) λw3⟨t,B⟩=>?_;have F:fe _:=Ss au ay az t B;have aV:fe (∃ai,W3 ft ai R b6 w3 W s r A J c5 c6 c7 c8 (fy ea (4*q) ec) c10 c11):=⟨_,t⟩;have⟨aW,aA,bz,_⟩:=mE.cells t.law;have⟨g,h,aX,aY,aj,aB,aC,S,aZ⟩:=N _ t;clear t B))
 clear ay az l hid M ae Q ag af E z aR aS aj S aB aC aZ aW aA
 go_loopw [19,20] (λo i wr=>∃k:Nat,k<=m/\o=fE fm/\i=.int .i64 (k:Int)/\ju w3 wr) (λ_ i _=>m-(intOf i).toNat)
 case atStart=>exact⟨0,zt _,rfl,rfl,mi _ _⟩
 case round=>
  obtain⟨k,D,rfl,rfl,c⟩:=hrel;have⟨ai,t⟩:=aV;have G:=t.below c;have bb:fe (W3 ft ai R b6 wr W s r A J c5 c6 c7 c8 (fy ea (4*q) ec) c10 c11):=G;have⟨_,aA,bc,_⟩:=mE.cells G.law;by_cases bd:k<m
  ·have K:k<fv es:=by rw[<-ah.o];exact bd
   have⟨g,h,aX,aY,aj,aB,aC,S,O⟩:=N _ G;have⟨ak,bA,aD⟩:=hZ O (by omega);rw[(lK aD).1]at S O;have bB:=gc O fX;have⟨V,X,Y⟩:=lr (off:=0) (ks O) (i:=k) (by simpa using K);rw[iO,yS]at V X Y;have⟨x,v⟩:=ol<|es[k];have be:fe (x=es[k]):=v;rw[<-v]at V X Y;have⟨bf,bg⟩:=ad x (by rw[v];exact kN K);obtain⟨d,al⟩:∃d:Nat,x.2.2=(d:Int)+1:=⟨(x.2.2-1).toNat,by omega⟩;have bh:wr.c ak (k*3+2)=fh (fY (d:Int)):=by rw[Y];unfold gH;rw[al];simp
   have bi:wr.c ak (k*3)=fh (hh x.1):=V;have bj:wr.c ak (k*3+1)=fh (fY x.2.1):=X;have bk:(k:Int)<(m:Int):=by omega
   have bl:fe (x.2.2=(d:Int)+1):=al;have bm:d<n:=by omega
   clear G t V X Y O aD v bf bg al;go_wp2;obtain⟨aE,P⟩:=ol (.cells #[hh x.1,fY x.2.1,fY (d:Int)] 112:Obj);obtain⟨u,C⟩:=ol<|wr.alloc aE;have thn:ju wr u:=by rw[C];exact(mi _ _).alloc (lw _) aE
   have Z:ju w3 u:=c.trans<|thn.mono c.size;have bC:u.c wr.heap.size 0=fh (hh x.1):=by rw[C,P];simp
   have bD:u.c wr.heap.size 1=fh (fY x.2.1):=by rw[C,P];simp
   have bE:u.c wr.heap.size 2=fh (fY (d:Int)):=by rw[C,P];simp
   have bF:u.heap.size=wr.heap.size+1:=by rw[C];simp
   have⟨am,an,ao⟩:=lr (off:=0) (ks F.1) K;rw[iO,<-be.o]at am an ao;have ap:gl<w3.heap.size:=gc F.1 fX;have bn:fe (∀q,(loadVar 96<|ii gl (k*3)).run prog (u.drewN q)=.ok (fD #[hh x.1,fY x.2.1,fY x.2.2]) (u.drewN q)):=λq=>ldE _ gl (k*3) x ((Z.cell (p:=(ii gl<|k*3)) ap).trans am) ((Z.cell (p:=(ii gl<|k*3+1)) ap).trans an)<|(Z.cell (p:=(ii gl<|k*3+2)) ap).trans ao;have⟨aF,bG,d0,bo,d1⟩:=ar _ bb d bm;have bH:=(thn.cell (p:=(ii W 2)) bc).trans d0;have d15:=(thn.cell (p:=(ii aF d)) bo).trans d1;have bI:aF<u.heap.size:=by omega
   rw[<-P,<-C];clear P C am an ao d0 d1 bi bj bh aj S;apply Wz (by kernel_rfl)<|by kernel_rfl
   iterate 3 quiet_step (fail)
   refine kW fX 96 _ fX (ii gl<|k*3) fX (fD #[hh x.1,fY x.2.1,fY x.2.2]) (by rintro _ ⟨n,rfl⟩;exact bn _) ?_
   go_frame
   iterate 13 quiet_step (fail)
   refine wQ fX .eql 96 96 _ _ fX (fD #[hh x.1,fY x.2.1,fY x.2.2]) (fD #[hh x.1,fY x.2.1,fY<|(d:Int)+1]) (fE<|decide (x=(x.1,x.2.1,(d:Int)+1))) fX fX (by rintro _ ⟨n,rfl⟩;exact fds _ _ _ _ _ _) (by rintro _ ⟨n,rfl⟩;exact flb _ x (x.1,x.2.1,(d:Int)+1)) ?_
   go_frame
   iterate 1 quiet_step (fail)
   apply Rx;rintro _ ⟨nq,rfl⟩;have aG:decide (x=(x.1,x.2.1,(d:Int)+1))=fm:=qu<|HA fX (HA fX bl);rw[aG];clear aG;go_wp2;go_roundw
   case rel=>exact⟨k+1,by omega,rfl,by go_num,iP Z nq⟩
   case measure=>simp[intOf];omega
  have bk:k=m:=by omega
  have⟨aH,z,aI,aJ,aK,aq⟩:=G.block;have aL:wr.ownsRow 0 55 1 (fy ea (4*q) ec) (4*q) (hs.map qL):=by
   have⟨_,w2,l,_,_,B⟩:=F;have bJ:=B.size;refine gg L.row λx v=>?_;have aM:=L.own x v
   have:=L.lt x aM
   rw[c.block x<|by omega,B.block x (by omega) λb=>ab.o x aM<|.inl b,l.block x this]
  have K:=(zS W q #[aH,z,aI,aJ,aK,c5,c6,c7,c8,fy ea (4*q) ec,c10,c11] ea ec m m (fh<|ii gl 0) hs _ wr aq aN<|by omega).2 fX aL (gg F.1 λx v=>c.block x<|gc F.1 v);have bp:fe _:=K;have bq:fe (∀w4,rW 96 55 3 (VE q) 9 wr w4 W q #[aH,z,aI,aJ,aK,c5,c6,c7,c8,fy ea (4*q) ec,c10,c11] ea ec (fh<|ii gl 0) m m hs->vF ft I R b6 FH w w4 W s r (q+1) c5 c6 c7 c8 c10 c11):=λw4 aa=>by
   have⟨_,w2,l,br,bs,B⟩:=F;exact Sr au L ab ac l br bs B c aq aa
  clear G t aL K aq;go_wp2_with(go_at_call 44;refine Calls.via bp.o λw4 aa=>?_;have bt:fe _:=bq _ aa;clear aa);go_ret;exact⟨fX,bt⟩
theorem Lx(a:W3 ft I R b6 w W s r A J c5 c6 c7 c8 (fy ea (4*q) ec) c10 c11)(g:Held FH w ea ec q hs)(h:∀k,FH k->¬F3 I R b6 k)(i:4*q<=1000000000)(a1 N a3:Int)(c T)(la:ig)(d f):
  ik 20 #[ie W,fD #[fY 4,fY a1,fY N,fY a3,hh c,hh T,fy la d f]] w λe H=>e=fF (fE fm)/\vF ft I R b6 FH w H W s r (q+1) c5 c6 c7 c8 c10 c11:=by
 by_cases b:fK A N=2;have hid:¬(N<1\/(fv A:Int)<N):=λa=>by rw[iE a]at b;cases b
 obtain⟨j,rfl⟩:∃j:Nat,N=(j:Int)+1:=⟨(N-1).toNat,by omega⟩
 grind [xa,Su]
 grind [Oc]
theorem Ii{e}{id ec x y:Int}(f:W3 ft I R b6 w W s r A J c5 c6 c7 c8 c9 c10 c11)(j:ju w O)(k:fH b6 O w2)(U:iL ft (kA b6 O w2) w2 s Z)
  (l:fH R w2 w3)(m:gj (kA R w2 w3) w3 r tk)(n:jw A Z es e)(h:AE J tk (es.map<|lR (fv A)) x y)(g:e=pD #[fY id,fY ec]):
  Cv A Z J tk id ec x y/\mE I w3 W s r (fv A) c5 c6 c7 c8 c9 c10 c11/\iL ft (kA b6 O w2) w3 s Z/\gj (kA R w2 w3) w3 r tk/\Sep w3 I (kA R w2 w3) (kA b6 O w2)/\gT tk/\fH (F3 I R b6) w w3:=by
 have⟨o,p,i,q⟩:=Xy f.twin n h;rw[g]at i;obtain⟨rfl,rfl⟩:id=o/\ec=p:=by simpa using i
 obtain⟨a,b,c,d,_⟩:=ym f j k U l;refine⟨q,a,b,m,c,Xz f.at_ (λe g=>?_) h,d⟩;obtain⟨t,_,rfl⟩:=ja.1 g
 have:=f.twin.1
 grind [lR,Int]
theorem Sv{d Y}{f:Nat}(i:mE I w3 W s r (fv A) c5 c6 c7 c8 c9 c10 c11)(U:iL ft Y w3 s Z)(j:gj d w3 r tk)(hs:Sep w3 I d Y)(c:fH (F3 I R b6) w w3)
  (a:fH (λk=>k=f) w3 w4)(l:¬I f)(m:¬d f)(n:¬Y f)(p:w.heap.size<=f):
  mE I w4 W s r (fv A) c5 c6 c7 c8 c9 c10 c11/\iL ft Y w4 s Z/\gj d w4 r tk/\Sep w4 I d Y/\fH (F3 I R b6) w w4:=
 ⟨i.keep (λ_ g=>g) λk b=>a.block k (hs.ll k b) λe=>l<|e▸b,iL.keep U (λ_ g=>g) λk b=>a.block k (hs.sl k b).1 λe=>n<|e▸b,j.keep (λ_ g=>g) λk b=>a.block k (hs.rl k b).1 λe=>m<|e▸b,hs.below a.size,
  ⟨a.os.trans c.os,a.tape.trans c.tape,a.output.trans c.output,wy c.size a.size,λk h o=>(a.block k (np h c.size) λe=>by omega).trans<|c.block k h o⟩⟩
