/- A part of the proof. -/
import Derived.Test.YtlgidcmmgohagaaGreatAllM26
set_option linter.all false
namespace Go.Proofs.YtlgidcmmgohagaaGreat
open Go.RowKit Go.Sort Go.Shelf Go.Proofs.Tryz
open Go.Value renaming slice->fy,string->fA,pointer->fB,tuple->fC,agg->fD,bool->fE
open Go.Ending renaming returned->fF
open Option renaming some->fh,none->fj
open Bool renaming true->fm,false->fo
open Go renaming World->fq,Value->fu
open List renaming length->fv,reverse->fx
open Go.RowKit renaming Hid->fe
set_option maxRecDepth 100000
set_option maxHeartbeats 0
variable {E:List fV}{data:fQ}{hs:List BW}{A:List Ob}{fl:Fls}{op:Ops}{t:LT}{φ:Nat->Nat}{s i p I:Nat}{B:WB}{T:gC}{w:fq}{g:WG}{rest:gX}
theorem index_none(c)(b:Nat->Option Nat)(w)(h:nO w c b)(d:∀a,a<8->b a≠none):
  ik 176 #[.slice (some<|ie c 1) 8 8,.pointer none] w (UV (fY<|-1) w):=by
 have⟨m,e,_⟩:=h
 change Hid _ at e d
 go_enter func176,ntmps176;go_wp2
 go_loopw [8] (λi wr=>∃a:Nat,a<=8/\i=.int .i64 (a:Int)/\wr=w) (λi _=>8-(intOf i).toNat)
 case atStart=>exact⟨0,Fr _,rfl,rfl⟩
 case round=>
  obtain⟨a,n,rfl,rfl⟩:=hrel;by_cases j:a=8
  ·subst j
   go_wp2;go_ret;exact⟨fX,fX⟩
  have k:a<8:=by omega
  have l:=e a k;cases f:b a with
  | none=>exact absurd f<|d a (by omega)
  | some x=>
   rw[f,qA] at l;have o:∀g,(binOp .eql 86 (.pointer none)<|ii x).run prog g=.ok (.bool false) g:=JH x;go_wp2;go_roundw
   case rel=>exact⟨a+1,by omega,by go_num,trivial⟩
   case measure=>simp[intOf];omega
theorem aig(a)(b:Nat->Option Nat)(w)(c:nO w a b)(d:∀f,f<8->b f≠fj):
  ik 119 #[fB<|fh (ie a 1)] w (UV (fC #[fY 0,fY 10]) w):=by
 have U:=index_none a b w c d;clear c d;go_enter func119,ntmps119;go_wp2_with(go_at_call 176;refine U.mono ?_;rintro e g ⟨rfl,rfl⟩);go_ret2;exact⟨fX,fX⟩
def huv(c)(b)(fg:Int)(w:fq)(d:xR b):ik 63 #[ii c,hZ b,fY fg] w (vd (fC #[fY 0,fY 1]) w):=by
 go_enter func63,ntmps63;go_wp2_with(go_at_call 69;refine Hk (d _) λe a=>?_);go_ret2
 first|exact⟨fX,a⟩|exact⟨fX,a.alloc a.size _⟩
theorem UT(f)(l)(d:Good l)(fg:Int)(w:fq)(g:∀a,ik 118 #[fY fg] a<|UV (fE fo) a):
  ik 63 #[ii f,hZ<|lA l,fY fg] w (vd (fC #[fY 0,fY 2]) w):=by
 have b:=λa=>kj l d a;obtain⟨H,h,i,j,Z,e⟩:=sk l;unfold ln at b;simp only[e]at b;clear e d;generalize lA l=k at b |-;go_enter func63,ntmps63;go_wp2_with(first
  |(go_at_call 69;refine Hk (b _) λm c=>?_)
  |(go_at_call 118;refine tB (g _) ?_))
 go_ret2
 first|exact⟨fX,c⟩|exact⟨fX,c.alloc c.size _⟩
theorem atR(d)(e:Nat->Option Nat)(l)(g:Good l)(fg:Int)(w)(f:nO w d e)(h:∀i,i<8->e i≠fj)(m:∀a,ik 118 #[fY fg] a<|UV (fE fm) a):
  ik 63 #[ii d,hZ<|lA l,fY fg] w (vd (fC #[fY 0,fY 10]) w):=by
 have c:=λa=>kj l g a;have n:=f.1;obtain⟨H,p,q,r,Z,j⟩:=sk l;unfold ln at c;simp only[j]at c;have k:=λa(o:ju w a)=>aig d e a (f.below o) h;have Bj:fe _:=k;clear j g k f h;generalize lA l=s at c |-;go_enter func63,ntmps63;go_wp2_with(first
  |(go_at_call 69;refine Hk (c _) λt b=>?_;have u:=nz n b.size)
  |(go_at_call 118;refine tB (m _) ?_)
  |(go_at_call 119;go_loud(refine tB (Bj.o _<|b.alloc b.size _) ?_)))
 go_ret2
 first|exact⟨fX,b⟩|exact⟨fX,b.alloc b.size _⟩
theorem UU(t)(fg:Int)(w:fq):ik 120 #[ii t,fD<|ml kq kq kq kq kq,fY fg] w (vd (fC #[fB fj,fY 7]) w):=by
 have b:=λa=>gW a;have d:∀a,(Op.equalIn 10000 147 (ln [])<|ln []).run prog a=.ok fm a:=λa=>by
  have:=ir Good.nil Good.nil a
  rwa [iE fX]at this
 unfold ln jn at b d;simp only[tW]at b d;go_enter func120,ntmps120;go_wp2
 go_region_with(go_at_call 75;refine(b _).via λe c=>?_;have⟨f,g⟩:=kw c;have h:=su c)
 all_goals
  go_wp2;go_ret2;exact⟨fX,gS (io<|(mi _ _).alloc (lw _) _) c⟩
theorem IU{fl:Int}(a:EQ fl=fm):(0<=fl/\fl<=63)/\(ma fl 8 ||ma fl 4)=ma fl 4:=by
 grind [EQ,ma]
def MR (E:List fV)(data:fQ)(hs:List BW)(p:fO)(fl:Int)(k:Nat)(a:fO):Option (Int×Int)->Opd
 |some x=>if x.1=2 then((0,7),E,data,hs)else if ma fl 8=fm then((0,6),E,data,hs) else(((k:Int),0),E,if ma fl 16=fm then data.set x.2.toNat ⟨#[]⟩else data,hs.set k (fm,x.2,fl,0))
 |none=>if ma fl 4=fo then((0,4),E,data,hs)else if 16<=fv (fU E a) then((0,11),E,data,hs)
  else(((k:Int),0),E++[(p,1,(fv data:Int))],data++[⟨#[]⟩],hs.set k (fm,(fv data:Int),fl,0))
theorem UW{a:fQ}(g:a≠[])(fl:Int)(k)(d):xU E data hs (fG a) fl k d=MR E data hs (fG a) fl k d (gj E a):=by
 have b:=rD E<|fG a;rw[<-nh g]at b;unfold xU;cases c:QQ E (fG a) with
 |none=>
  rw[c]at b;rw[<-b];rfl
 |some i=>
  rw[c,wy]at b;rcases f:E[i]? with _|e
  exfalso
  have:=(yM.1 c).1
  grind
  rw[f,qA]at b;rw[<-b];simp only[f];rfl
theorem CY{l:fQ}{x:fO}(a:Good (l++[x]))(fl:Int):Lq E data hs (fG<|l++[x]) fl=if EQ fl=fo then((0,2),E,data,hs)else if jt hs=8 then((0,10),E,data,hs)else if xu E (l++[x])≠0 then((0,xu E<|l++[x]),E,data,hs)else MR E data hs (fG<|l++[x]) fl (jt hs) (fG l) (gj E<|l++[x]):=by
 grind [Lq,iM,CR,UW]
def UX{a}(b:(jz a).2=fo)(fl:Int):Lq E data hs a fl=((0,1),E,data,hs):=by unfold Lq;rw[lv b]
theorem xX(fl:Int):Lq E data hs (fG []) fl=if EQ fl=fo then((0,2),E,data,hs)else if jt hs=8 then((0,10),E,data,hs) else((0,7),E,data,hs):=by
 grind [Lq,iM,Good.nil,List,ByteArray]
def QO (n m k:Nat)(x:Opd):Prop:=(x.1.2==14)=fo/\fv x.2.1<=n+1/\fv x.2.2.1<=m+1/\fv x.2.2.2=k
theorem hvl(a)(fl:Int):QO (fv E) (fv data) (fv hs) (Lq E data hs a fl):=by
 have l:∀e:Int×Int,(e.2==14)=fo->QO (fv E) (fv data) (fv hs) (e,E,data,hs):=λe b=>⟨b,Ha _,Ha _,fX⟩;refine ro (QO _ _ _) (l _ fX) ?_;refine ro (QO _ _ _) (l _ fX) ?_;refine ro (QO _ _ _) (l _ fX) ?_;refine ro (QO _ _ _) (l _ fX) ?_;refine ro (QO _ _ _) (l _<|hpt (Hf _ _)) ?_;unfold xU;cases QQ E a with
 |none=>
  refine ro (QO _ _ _) (l _ fX) ?_;exact ro (QO _ _ _) (l _ fX) ⟨fX,by simp,by simp,by simp⟩
 |some i=>
  simp only;rcases E[i]? with _|e
  exact l _ fX;simp only;refine ro (QO _ _ _) (l _ fX) ?_;refine ro (QO _ _ _) (l _ fX) ?_;refine⟨fX,Ha _,?_,by simp⟩
  grind
theorem oV.adh(c:oV A fl op t E data hs φ)(i:gf E data){p}{a:Nat}(j:fL p)(g:fl a≠fj)(l:t.at A p=fh (.held a)):gj E p=fh (1,(φ a:Int)):=by
 have b:=c.reads p j;unfold xc at b;rw[l,qA]at b;rcases d:gj E p with _|y
 rw[d]at b;cases b;rw[d,qA,pW]at b;have u:=tJ i d;obtain⟨n,m⟩:=y;have v:n=1:=by
  rcases u with e|e
  exact e;have e:n=2:=e;subst e;rw[IC,lv fX]at b;cases b
 subst v;obtain⟨w,x⟩:=i.num d fX;simp only at w x;obtain⟨k,rfl⟩:∃k:Nat,m=(k:Int):=⟨m.toNat,by omega⟩;by_cases e:φ a=k;rw[e];exfalso;have z:=(wI.1<|c.cont a g).1;have o:∀f:fO,f=(data[k]?).getD kq:=λf=>by
  have:=c.par (pD (gz A fl) a f) (data.set (φ a) f) ⟨by simp,λq r=>?_,λk B=>EG<|B a g⟩ p j
  unfold xc at this;rw[l,d,qA,qA,pW,IC,km<|by simp,qI,EG e]at this;have s:Nd.file (pD (gz A fl) a f a)=Nd.file ((data[k]?).getD kq):=this;rw[ld]at s;exact Nd.file.inj s;by_cases h:q=a;rw[h,ld,Rl z];rw[kx h,EG λC=>h (c.inj _ _ g r C).symm,c.cont q r]
 have:=(o kq).trans (o ⟨#[0]⟩).symm
 cases this
theorem oV.least(c:oV A fl op t E data hs φ):(jt hs=8/\∀a,a<8->(op a).map (·.1)≠fj)\/(jt hs<8/\(op<|jt hs).map (·.1)=fj/\∀a,a<jt hs->(op a).map (·.1)≠fj):=by
 have h:∀a(b:a<8),(hs[a]'(by rw[c.h8];exact b)).1=(op a).isSome:=λa b=>by
  have:=c.tab a b
  rw[jG (by grind),pW]at this;rw[this];cases op a<;>rfl
 have i:∀{a},(op a).isSome=fm->(op a).map (·.1)≠fj:=λ{a}b=>by
  rcases e:op a with _|x
  rw[e]at b;cases b;simp
 rcases WH (jt hs) (fv hs) with d|d
 have g:jt hs<8:=by rw[<-c.h8];exact d
 have f:(!(hs[jt hs]'d).1)=fm:=List.findIdx_getElem (w:=d);refine .inr ⟨g,?_,λa b=>i ?_⟩;rw[h _ g]at f;rcases e:op (jt hs)with _|x
 rfl;rw[e]at f;cases f
 have:=List.not_of_lt_findIdx (p:=λc:BW=>!c.1) b
 grind
 have j:jt hs=8:=by
  have:jt hs<=fv hs:=List.findIdx_le_length
  have:=c.h8
  omega
 grind [List.not_of_lt_findIdx,jt]
def Rb(E)(data)(hs)(p)(fl:Int)(k)(a):MR E data hs p fl k a fj=if ma fl 4=fo then((0,4),E,data,hs)else if 16<=fv (fU E a) then((0,11),E,data,hs)
  else(((k:Int),0),E++[(p,1,(fv data:Int))],data++[kq],hs.set k (fm,(fv data:Int),fl,0)):=fX
def Rc(E)(data)(hs)(p)(fl:Int)(k)(a)(x:Int×Int):MR E data hs p fl k a (fh x)=if x.1=2 then((0,7),E,data,hs)else if ma fl 8=fm then((0,6),E,data,hs) else(((k:Int),0),E,if ma fl 16=fm then data.set x.2.toNat kq else data,hs.set k (fm,x.2,fl,0)):=fX
theorem ACM(H:tU s i p B A T w g I t E data rest)(Sb:Nat)(S:fO)(hS:S.size<=1048576)(fg:Int)(hr:-9223372036854775808<=fg/\fg<9223372036854775808):um s i p B A T w g I E data rest fm 1 63 94 [hZ S,fY fg] Sb:=by
 obtain⟨h,hl,U,hX,hY,hnl,hdl⟩:=H;have hY':=hY;obtain⟨⟨φ,hs,more,rfl,hM⟩,UY⟩:=hY;obtain⟨hwb,c0,hT⟩:=h.ws;obtain⟨o14,ol1,ol2,ol3⟩:=hvl (E:=E) (data:=data) (hs:=hs) S fg;refine⟨(Lq E data hs S fg).1.2,(Lq E data hs S fg).1.1,kq,(Lq E data hs S fg).2.1,(Lq E data hs S fg).2.2.1,wn (Lq E data hs S fg).2.2.2++more,o14,ol1,ol2,xW hM.h8<|ol3.trans hM.h8,?_,λhst=>by
  obtain⟨na,nc,da,dc,hst⟩:=hst;exact UR hst hM.h8 (UY.fine hnl) UY.kinds hdl S (by omega) fg⟩
 have same:∀{er:Int},Lq E data hs S fg=((0,er),E,data,hs)->(ik 63 #[ii B.wb,hZ S,fY fg] w (vd (fC #[fY 0,fY er]) w))->
   ik 63 #[ii B.wb,hZ S,fY fg] w λe J=>ZM s i p B A T w J g I E data (wn hs++more) fm (fC #[fY (Lq E data hs S fg).1.1,fY (Lq E data hs S fg).1.2]) (fC #[fY 0,fY 14]) (Lq E data hs S fg).2.1 (Lq E data hs S fg).2.2.1 (wn (Lq E data hs S fg).2.2.2++more) e:=λe hc=>by
  rw[e];exact hc.mono λe J⟨he,hbl⟩=>js h U hY' he hbl
 have hval:=λW=>ZZ fg hr W;rcases nx (S:=S) (ww hS<|by decide) with⟨hf,hn⟩|⟨l,hG,rfl⟩
 exact same (er:=1) (UX hf fg)<|huv B.wb S fg w hn;cases hfl:EQ fg with
 |false=>
  rw[hfl]at hval;refine same (er:=2) ?_ (by rw[<-xf];exact UT B.wb l hG fg w hval);rcases ny l with rfl|⟨n,r,rfl⟩
  all_goals grind [xX,CY]
 |true=>
  rw[hfl]at hval;have adj:¬EQ fg=fo:=by rw[hfl];simp
  obtain⟨hfg,hxc⟩:=IU hfl;rcases hM.least with⟨h8,hall⟩|⟨h8,hnone,hall⟩
  ·refine same (er:=10) ?_ (by rw[<-xf];exact atR B.wb _ l hG fg w hT hall hval)
   rcases ny l with rfl|⟨n,r,rfl⟩
   all_goals grind [xX,CY]
  have h8n:¬jt hs=8:=by omega
  obtain⟨k,hk⟩:∃k,k=jt hs:=⟨_,fX⟩;rcases ny l with rfl|⟨n,r,rfl⟩
  refine same (er:=7) (by grind [xX]) ?_;rw[<-xf];exact xJ B.wb B.bt (jt hs) _ fg [] Good.nil 7 (by decide) (λJ=>ju w J) w hT c0 h8 hnone hall hval λW MT=>(UU B.bt fg W).mono λe J⟨he,hbl⟩=>⟨he,MT.trans<|hbl.mono MT.size⟩;have hv:=hG.val;have hS0:=hX.sound;obtain⟨_,_,hb4,hb8,adk,_⟩:=Hq hfg;have hop:=λW(MT:ju w W)=>YC (h.inv.below MT) (by omega) h.flat h.ok hG fg _ _ _ hb8 hb4 adk;rcases ye A t g.fs r with⟨hN,hE⟩|⟨hN,hE⟩
  rotate_left
  rw[<-xf];simp only[hE]at hop;refine(xJ B.wb B.bt (jt hs) _ fg _ hG 14 (by decide) (λJ=>Left s i p B A T w J g (pA A t g.fs r).1 t<|I+300) w hT c0 h8 hnone hall hval λW MT=>(hop W MT).mono ?_).mono λe J⟨h1,h2⟩=>.inr ⟨fX,hN.1,h1,vt ((Rg.of h h2).mono<|by omega) (Kn.fail hN) U hY'⟩
  rintro e J (⟨_,h1,h2⟩|⟨hx,_⟩|⟨hx,_⟩);exact⟨h1,uS MT h2⟩;cases hx;cases hx
  suffices abe:ik 63 #[ii B.wb,hZ<|fG (fx r++[n]),fY fg] w λe J=>e=qr #[fY (Lq E data hs (fG<|fx r++[n]) fg).1.1,fY (Lq E data hs (fG<|fx r++[n]) fg).1.2]/\Er s i p B A T w J g I g.fs.brk (fE fm) (Lq E data hs (fG<|fx r++[n]) fg).2.1 (Lq E data hs (fG<|fx r++[n]) fg).2.2.1 (wn (Lq E data hs (fG<|fx r++[n]) fg).2.2.2++more)from abe.mono λ_ _ h=>.inl h
  rw[mK]at hE;have hE:(pA A t g.fs r).2=jA A t r:=hE;have hup:=Mk hM.reads UY hv.left n;simp only[hE]at hop;generalize (pA A t g.fs r).1=fs' at hN hop;rw[CY hG,km adj,km h8n,<-hup,<-xf];have abf:∀er',er'≠0->(∀W,ju w W->ik 120 #[ii B.bt,fD<|jn (fx r++[n]),fY fg] W λe J=>e=qr #[fB fj,fY er']/\Left s i p B A T W J g fs' t (I+300))->
    ik 63 #[ii B.wb,hZ<|lA (fx r++[n]),fY fg] w λe J=>e=qr #[fY 0,fY er']/\Er s i p B A T w J g I g.fs.brk (fE fm) E data (wn hs++more):=by
   intro er' hne hc;refine(xJ B.wb B.bt (jt hs) _ fg _ hG er' hne _ w hT c0 h8 hnone hall hval λW MT=>(hc W MT).mono λe J⟨h1,h2⟩=>⟨h1,uS MT h2⟩).mono ?_;rintro e J ⟨h1,h2⟩;exact⟨h1,vt ((Rg.of h h2).mono<|by omega) (Kn.next hN) U hY'⟩
  by_cases h0:(jA A t r).1=0
  ·rw[km (by rw[h0];simp)]
   obtain⟨d,ha,hkd⟩:=uX h0;obtain⟨Y,hks⟩:∃Y,Y=(jA A t r).2:=⟨_,fX⟩;rw[<-hks]at hkd hop;rw[h0]at hop;have hkk:=lO hS0 (tA hS0 _ h.ok ha).2.1 hkd;have abg:=ve hM.reads UY hS0 h.ok ha hkd;have hee:∀er',BH Y n (ma fg 8) (ma fg 4)=er'->er'≠0->ik 63 #[ii B.wb,hZ<|lA (fx r++[n]),fY fg] w λe J=>e=qr #[fY 0,fY er']/\Er s i p B A T w J g I g.fs.brk (fE fm) E data (wn hs++more):=λer' he hne=>by
    refine abf er' hne λW MT=>(hop W MT).mono ?_;rintro e J (⟨hx,_⟩|⟨_,hx,h1,h2⟩|⟨_,hx,_⟩);exact absurd fX hx;exact⟨by rw[<-he];exact h1,h2⟩;rw[he]at hx;exact absurd hx hne
   -- the file that is opened
   have hok:BH Y n (ma fg 8) (ma fg 4)=0->∀{iC:List fV}{kr:fQ}{num:Int},(∀f Ht t',w.heap.size<=f\/g.fl f≠fj->fM A 5 t'->Tq A w.heap.size g.fl Y t (fx r) n (ma fg 16) f Ht t'->vV A Ht/\(∃x,Ht f=fh x)/\gL A t'/\∃ψ,num=((ψ f:Nat):Int)/\oV A Ht g.op t' iC kr hs ψ/\gf iC kr)->
     ik 63 #[ii B.wb,hZ<|lA (fx r++[n]),fY fg] w λe J=>e=qr #[fY (jt hs:Int),fY 0]/\Er s i p B A T w J g I g.fs.brk (fE fm) iC kr (wn (hs.set (jt hs) (fm,num,fg,0))++more):=by
    intro hoe iC kr num hmk;refine(Tr B.wb B.bt (jt hs) (λk=>(g.op k).map (·.1)) fg _ hG (λf J=>∃M ft' Ht t',fI (Mine i) T M w J/\fZ M J s i p B A { g with fs:=fs',ft:=ft',fl:=Ht } (I+300)/\Flat A t' ft'/\fM A 5 t'/\Tq A w.heap.size g.fl Y t (fx r) n (ma fg 16) f Ht t') w hT c0 h8 hnone hall hval (λW MT=>(hop W MT).mono ?_) ?_).mono ?_;rintro e J (⟨hx,_⟩|⟨_,hx,_⟩|⟨_,_,f,M,ft',Ht,t',he,m,hW,hF,hO,hT⟩);exact absurd fX hx;exact absurd hoe hx;refine⟨f,he,M,ft',Ht,t',mr MT m,hW,hF,hO,?_⟩;have hsz:=MT.size;rcases hT with⟨a1,a2,a3,a4⟩|a|⟨id,a1,a2,a3,a4⟩
    exact .inl ⟨a1,ww hsz a2,a3,a4⟩;exact .inr<|.inl a;exact .inr<|.inr ⟨id,a1,ww hsz a2,a3,a4⟩;rintro f J ⟨M,ft',Ht,t',m,hW,_⟩;exact hW.wp.opens.tab.1;rintro e J ⟨he,f,w1,⟨tg1,ft1,fl1,t1,m1,hW1,hF1,hO1,hT1⟩,rfl⟩;have hfo:w.heap.size<=f\/g.fl f≠fj:=by
     rcases hT1 with⟨_,a2,_⟩|⟨a1,_⟩|⟨id,_,a2,_⟩
     exact .inl a2;refine .inr ?_;have hwf:t.at A (fx r++[n])=fh (.held f):=by rw[lx,ha,wy,lh,hkd,wy,a1,wy,pd]
     obtain⟨x,hx⟩:=h.inv.wp.held (fx r++[n]) f (by rw[h.flat.of,hwf];rfl);rw[hx];simp;exact .inl a2
    obtain⟨adl,⟨x,hx⟩,hi1,ψ,rfl,hM1,adm⟩:=hmk f fl1 t1 hfo hO1 hT1;obtain⟨m2,hW2⟩:=hW1.aar (k:=jt hs) (f:=f) (fg:=fg) h8 hx hfg.1 (by omega);refine⟨he,_,_,t1,m1.trans (m2.mono λx hx=>.inr (by rw[hx])),⟨hW2.mono<|by omega,hF1,hO1,adl⟩,Kn.next hN,fX,hi1,⟨⟨ψ,_,more,fX,hM1.opens h8 (fh (w1.heap.size,f,fg,0)) λz hz=>?_⟩,adm⟩,λk h=>by cases h⟩;cases hz;rw[hx];simp
   have UZ:∀{f},w.heap.size<=f->g.fl f=fj:=λ{f}hf=>by
    cases hg:g.fl f with
    |none=>rfl
    |some x=>
     obtain⟨id,d⟩:=x
     have:=(lH.1 (h.inv.wp.files f id d hg).2.1).1
     omega
   have pow:∀{f},w.heap.size<=f->∀y,t.at A y≠fh (.held f):=λ{f}hf y hy=>by
    obtain⟨x,hx⟩:=h.inv.wp.held y f (by rw[h.flat.of,hy];rfl);rw[UZ hf]at hx;cases hx
   have abh:∀f,gL A (.held f):=λf x y b hx hy=>by
    have:∀z,(LT.held f).at A z=fh (.held b)->z=[]:=λz hz=>by
     cases z with
     |nil=>rfl
     |cons m r=>rw[lh]at hz;simp[kids]at hz
    rw[this x hx,this y hy]
   have abi:∀{f},w.heap.size<=f->gL A (vy A (λY=>zr Y n<|.held f) (fx r) t):=λ{f}hf=>by
    refine Md U hkk.1 ha hkd (abh f) λx b y hx hy=>?_;exfalso;cases x with
    |nil=>rw[pd]at hx;cases hx;exact pow hf y hy
    |cons m r=>rw[lh]at hx;simp[kids]at hx
   cases hp:jp Y n with
   |none=>
    have hln:gj E (fx r++[n])=fj:=(hM.reads.empty hv).2 (by grind [mY]);have hoE:=Gf hp (ex:=ma fg 8) (R:=ma fg 4);rw[hxc]at hoE;rw[hln,Rb];cases abj:ma fg 4 with
    |false=>
     all_goals grind
    |true=>
     rw[abj,lv fX,abg]at hoE;rw[abj]at hee hok;rw[km<|by simp];by_cases h16:16<=fv (fU E<|fG (fx r))
     ·all_goals grind
     rw[km h16]at hoE;rw[km h16];refine hok hoE λf Ht t' _ hO' hT'=>?_;rcases hT' with⟨_,a2,rfl,rfl⟩|⟨a1,_⟩|⟨id,a1,_⟩
     show _/\_/\_/\∃ψ,_/\oV A _ _ _ (E++[(lA<|fx r++[n],1,(fv data:Int))]) (data++[kq]) hs ψ/\gf (E++[(lA<|fx r++[n],1,(fv data:Int))]) (data++[kq]);rw[xf];refine⟨h.fl.write f _,⟨_,ld _ _ _⟩,abi a2,pD φ f<|fv data,by rw[ld],hM.create hS0 h.ok UY (UZ a2) hv ha hkd hp,?_⟩;have TCP:=hM.reads (fx r) hv.left;have hk2:ol E (fG<|fx r)=2:=(hM.reads.tI UY hv.left).2 (by
      unfold xc;rw[ha,qA];cases d with
      |file j=>simp[kids]at hkd
      |held j=>simp[kids]at hkd
      |dir j=>rfl
      |own es=>rfl)
     refine UY.push hv hG.len ((mq UY hv.left).2.1.1 hk2) hln (by omega) (.inl fX) (by simp) λ_=>⟨by omega,by simp only[lI,lg,zw];omega⟩
     all_goals grind
   |some c=>
    have hwf:t.at A (fx r++[n])=fh c:=(by rw[lx,ha,wy,lh,hkd,wy,hp,wy,pd]);have hoE:=Gg hp (ex:=ma fg 8) (R:=ma fg 4);have hrd:=hM.reads (fx r++[n]) hv;unfold xc at hrd;rw[hwf,qA]at hrd;cases hlk:gj E (fx r++[n]) with
    |none=>rw[hlk]at hrd;cases hrd
    |some y=>
     rw[hlk,qA,pW]at hrd;have h12:=tJ UY hlk;have hkc:y.1=2↔c.kind=2:=by
      unfold IC at hrd;constructor;intro e;rw[lv e]at hrd;cases c<;>first|rfl|cases hrd
      intro e;rcases h12 with e1|e1
      exfalso;rw[km<|by omega]at hrd;cases c<;>first|cases hrd|cases e
      exact e1
     rw[Rc];by_cases hk2:c.kind=2
     ·all_goals grind
     rw[km λe=>hk2<|hkc.1 e];rw[km hk2]at hoE;cases abk:ma fg 8 with
     |true=>
      all_goals grind
     |false=>
      rw[abk,km<|by simp]at hoE;rw[km<|by simp];rw[abk]at hok;have hy1:y.1=1:=h12.resolve_right λe=>hk2<|hkc.1 e;obtain⟨y1,y2⟩:=y;have hy1:y1=1:=hy1;subst hy1;obtain⟨m0,m1⟩:=UY.num hlk fX;simp only at m0 m1;obtain⟨j,rfl⟩:∃j:Nat,y2=(j:Int):=⟨y2.toNat,by omega⟩;refine hok hoE λf Ht t' hfo hO' hT'=>?_;rw[qI];rcases hT' with⟨a1,_⟩|⟨a1,rfl,rfl⟩|⟨id,a1,a2,rfl,rfl⟩
      ·all_goals grind
      ·rw[hp]at a1
       cases a1;have hff:g.fl f≠fj:=by
        all_goals grind
       have abm:=hM.adh UY hv hff hwf;rw[hlk,pW,vw]at abm;have hj:j=φ f:=by have:=abm.2;omega
       cases abn:ma fg 16 with
       |false=>
        rw[km<|by simp,km<|by simp];exact⟨h.fl,Ri.1 hff,U,φ,by rw[hj],hM,UY⟩
       |true=>
        rw[lv fX,lv fX,hj];exact⟨h.fl.write f _,⟨_,ld _ _ _⟩,U,φ,fX,hM.write hff _,UY.len<|by simp⟩
      rw[hp]at a1;cases a1;have hid:fJ A id=1:=by
       have:=(tA hS0 _ h.ok hwf).2.1
       generalize 5-fv (fx r++[n])=m at this;cases m<;>exact this
      have adp:id≠0:=λe=>by
       have:=(Bt (A:=A) (id:=id)<|by omega).1
       omega
      have hM2:=hM.hold hS0 h.ok UY (UZ a2) adp hv ha hkd hp hlk;have adq:vV A (pD g.fl f<|fh (id,kq)):=λf' id' d' hf' h0'=>by
       by_cases e:f'=f;rw[e,ld]at hf';cases hf';exact hid;rw[kx e]at hf';exact h.fl f' id' d' hf' h0'
      have hff:pD g.fl f (fh (id,kq)) f≠fj:=by rw[ld];simp
      cases abn:ma fg 16 with
      |false=>
       all_goals grind [ld,pD]
      |true=>
       rw[lv fX,lv fX];have hM3:=hM2.write hff kq;rw[ld]at hM3;exact⟨adq.write f _,⟨_,ld _ _ _⟩,abi a2,pD φ f j,by rw[ld],hM3,UY.len<|by simp⟩
  rw[lv h0];refine abf _ h0 λW MT=>(hop W MT).mono ?_;rintro e J (⟨_,h1,h2⟩|⟨hx,_⟩|⟨hx,_⟩)
  all_goals grind
def Va{f}{g:Region.Mode}{a:List Oper}{b:Exit->Act->fq->Prop}{c:Array Bool}{d}{w:fq}(k){fuel:Nat}(h:fv (a.drop k)=fuel)(hs:Region.noSelect a.toArray=fm)(i:Region.lexFrom g a.toArray (fv<|a.drop k) k c=fm)
  (e:wpQuiet f a.toArray (λJ=>∃n,J=w.drewN n) (λH=>∀J,(∃n,J=w.drewN n)->b .normal H J) (a.drop k) d):wpAny f g a.toArray b fuel c d w:=by
 subst h;exact wpAny_of_quiet (Q:=λH=>∀J,(∃n,J=w.drewN n)->b .normal H J) (λ_ J j e=>e J j) _ _ _ _ ⟨0,fX⟩<|wpAnyQ_lex hs (a.drop k) k c d (λl=>by simp) i e
theorem hwi(h n t B C wc aA ah ai:Nat)(A q O P:Int)(Q R)(S)(T U)(aj)(w:fq)(V:h<w.heap.size)(c5:w.c h 5=fh (my B 0 n wc))(ak:w.c h 6=fh (my C 0 n aA))
  (aa:B<w.heap.size)(kO:C<w.heap.size)(aB:t<n)(aC:n<=1000000000)(al:w.c B t=fh (ii ah))(am:w.c C t=fh (ii ai))(an:-9223372036854775808<=q/\q<=9223372036854775807)(ao:ud q (n:Int)=(t:Int))
  (ab:xor h ah ai A (pO A q O P Q R S T U) aj w):
  ik 23 #[ii h,fD<|pO A q O P Q R S T U] w λe J=>e=fF (fE fm)/\aj J:=by
 have ac:=λaD=>gcd q (n:Int) aD an (by omega) (by omega);rw[ao]at ac;unfold pO at ab |-;obtain⟨ap,j⟩:=oX (.cells #[fY A,fY q,fY O,fY P,hZ Q,hZ R,fy S T U] 57:Obj);obtain⟨a,b⟩:=oX<|w.alloc ap;have k:ju w a:=by rw[b];exact(mi _ _).alloc (lw _) ap
 have aE:w.heap.size<a.heap.size:=by rw[b];simp
 have aF:a.c w.heap.size 0=fh (fY A):=by rw[b,j];simp
 have aG:a.c w.heap.size 1=fh (fY q):=by rw[b,j];simp
 have aH:a.c w.heap.size 2=fh (fY O):=by rw[b,j];simp
 have aI:a.c w.heap.size 3=fh (fY P):=by rw[b,j];simp
 have aJ:a.c w.heap.size 4=fh (hZ Q):=by rw[b,j];simp
 have aK:a.c w.heap.size 5=fh (hZ R):=by rw[b,j];simp
 have aL:a.c w.heap.size 6=fh (fy S T U):=by rw[b,j];simp
 have aM:=(k.cell (p:=(ie h 5)) V).trans c5;have aN:=(k.cell (p:=(ie h 6)) V).trans ak;have aO:=(k.cell (p:=(ie B t)) aa).trans al;have aP:=(k.cell (p:=(ie C t)) kO).trans am;have aQ:h<a.heap.size:=nz V k.size;have aR:B<a.heap.size:=nz aa k.size;have aS:C<a.heap.size:=nz kO k.size;have aT:(t:Int)<(n:Int):=by omega
 have D:fe _:=ab;have r:fe _:=λl=>jf k l;have aq:fe _:=ac;clear ab ac c5 ak al am ao;go_enter func23,ntmps23;go_upto_region 1 with fail;rw[<-j,<-b];clear j b k
 go_region_with(go_at_call 49;refine tB (aq.o _) ?_)
 all_goals
  rcases D.o with⟨u,E⟩|⟨u,bo,E⟩|⟨rfl,m,bp,aU,aV,aW,aX,F,ar,G,I,K⟩|⟨rfl,id,ad,x,bq,br,aU,aV,F,G,aY⟩
  ·have o:fe _:=λl=>E _ (r.o l)
   clear E D r;go_wp2_with(go_at_call 50;refine Hk (o.o _) λW g=>?_);go_ret;exact⟨fX,g⟩
  ·have o:fe _:=λl=>E _ (r.o l)
   have t13:decide (A<=13)=fo:=yv (by omega);clear E D r;go_wp2_with(go_at_call 51;refine Hk (o.o _) λW g=>?_);go_ret;exact⟨fX,g⟩
  ·have o:fe _:=λl=>F _ (r.o l)
   have L:fe _:=G;have X:fe _:=I;have ae:fe _:=K;have aZ:fe _:=ar;have bb:fe _:=λ(Y:Bool)(J:fq)=>qR h 0 0 Y J fX;have bc:=λY d af=>Oy (.inr fX) Y m d aX af;clear ar F G I K D r;go_wp2_with fail;apply Ps<|o.o _;rintro _ W (⟨bs,c,rfl,y⟩|⟨rfl,bd⟩)
   ·go_wp2_with(first
     |(go_at_call 53;refine tB (bb.o _ _) ?_)
     |(go_at_call 54;apply Ps<|L.o _ _ _ y;rintro _ ag ⟨H,bt,rfl,z⟩;have be:fe _:=z;clear z)
     |(go_at_call 55;refine Hk (X.o _ _ _ _ _ be.o) λau M=>?_;have bf:fe _:=M;clear M)
     |(go_at_call 56;refine Hk (ae.o _ _ _ bf.o) λbg g=>?_))
    go_ret;exact⟨fX,g⟩
   have bh:fe _:=qa (aZ _ bd) 0;go_wp2_with(first
    |(go_at_call 53;refine Hk bh λag u=>?_;have bi:fe _:=u;clear u)
    |(go_at_call 54;apply Ps bi.o;rintro _ au ⟨Y,d,rfl,u⟩;have bj:fe _:=u;clear u)
    |(go_at_call 55;apply Ps<|bc _ _ _;rintro _ bg ⟨x,rfl,bk⟩)
    |(go_at_call 56;refine Hk (bj _ bk) λbu g=>?_))
   all_goals
    go_ret;exact⟨fX,g⟩
  have o:fe _:=λl=>F _<|r.o l;have L:fe _:=G;have av:=λ(e:Int)(af:fq)=>mj e af;clear F G D r;rcases aY with⟨bl,rfl,rfl,g⟩|⟨rfl,rfl,s,m,aW,I,K⟩
  ·have bv:(ad != 0)=fm:=by simpa using bl
   have bw:(ad==ad)=fm:=by simp
   have bm:fe _:=g;clear g;go_wp2_with(first
    |(go_at_call 18;refine Hk (o.o _) λW y=>?_;have⟨aw,ax,N⟩:=L.o _ y;have Z:fe _:=N;clear N y)
    |(go_at_call 57;refine Hk Z.o λag z=>?_)
    |(go_at_call 22;refine tB (av _ _) ?_))
   go_ret;exact⟨fX,bm.o _ z⟩
  have X:fe _:=I;have ae:fe _:=K;clear I K aG aH aI aJ aK aL;go_wp2_with fail;refine Hk (o.o _) λW y=>?_;have⟨aw,ax,N⟩:=L.o _ y;have Z:fe _:=N;clear N y aF aM aN aO aP aQ aR aS V aa kO aB aC an aT o aE aq;go_wp2_with fail;refine Hk Z.o λag z=>?_;have bn:fe _:=X.o _ z;clear z Z L X ax aw av;go_wp2;apply wp_region_any<|by kernel_rfl
  try(change wpAny _ _ _ _ _ _ _ (World.drew _))
  refine WL (i:=0) (v:=?_) fX (by kernel_rfl) (by kernel_rfl) (by kernel_rfl) (λ_ _ _ f=>f) (Or.inl ⟨by rfl,?_⟩) ?_
  rotate_left
  ·intro w
   go_simp
   try with_reducible rfl
  refine WL (i:=1) (v:=?_) fX (by kernel_rfl) (by kernel_rfl) (by kernel_rfl) (λ_ _ _ f=>f) (Or.inl ⟨by rfl,?_⟩) ?_
  rotate_left
  ·intro w
   go_simp
   try with_reducible rfl
  refine WL (i:=2) (v:=?_) fX (by kernel_rfl) (by kernel_rfl) (by kernel_rfl) (λ_ _ _ f=>f) (Or.inl ⟨by rfl,?_⟩) ?_
  rotate_left
  ·intro w
   go_simp
   try with_reducible rfl
  refine WL (i:=3) (v:=?_) fX (by kernel_rfl) (by kernel_rfl) (by kernel_rfl) (λ_ _ _ f=>f) (Or.inl ⟨by rfl,?_⟩) ?_
  rotate_left
  ·intro w
   go_simp
   try with_reducible rfl
  refine WL (i:=4) (v:=?_) fX (by kernel_rfl) (by kernel_rfl) (by kernel_rfl) (λ_ _ _ f=>f) (Or.inl ⟨by rfl,?_⟩) ?_
  rotate_left
  ·intro w
   go_simp
   try with_reducible rfl
  refine WL (i:=5) (v:=?_) fX (by kernel_rfl) (by kernel_rfl) (by kernel_rfl) (λ_ _ _ f=>f) (Or.inl ⟨by rfl,?_⟩) ?_
  rotate_left
  ·intro w
   go_simp
   try with_reducible rfl
  apply wpAny_ready (rs:=[6]) (by kernel_rfl) (by simp);refine AllReady.cons fX (λbx bz=>?_) AllReady.nil
  go_simp
  go_wp2_with(go_at_call 37;refine Hk (bn.o _) λau M=>?_;have⟨bA,bB,bC,bD,⟨bE,bF,bG⟩,ay⟩:=ae.o _ M;have az:fe _:=ay;clear ay M);apply Va 7 fX (by kernel_rfl) (by kernel_rfl);simp only[MW,Eb]
  repeat(go_big_quiet_step (first|(go_at_call 45;exact Cc (az.o _).2)))
  apply WE;rintro _ ⟨nq,rfl⟩;go_wp2;go_ret;exact⟨fX,(az.o _).1⟩
