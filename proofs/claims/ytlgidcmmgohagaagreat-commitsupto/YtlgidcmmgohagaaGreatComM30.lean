/- A part of the proof. -/
import Derived.Test.YtlgidcmmgohagaaGreatComM29
set_option linter.all false
namespace Go.Proofs.YtlgidcmmgohagaaGreat
open Go.RowKit Go.Sort Go.Shelf Go.Proofs.Tryz
open Go.Value renaming slice->fy,string->fA,pointer->fB,tuple->fC,agg->fD,bool->fE
open Go.Ending renaming returned->fF
open Option renaming some->fh,none->fj
open Bool renaming true->fm,false->fo
open Go renaming World->fq,Value->fu
open List renaming length->fv,reverse->fx
open Go.RowKit renaming Hid->fe
set_option maxRecDepth 100000
set_option maxHeartbeats 0
variable {E:List fV}{data:fT}{hs:List BN}{A:List Ob}{fl:Fls}{op:Ops}{t:LT}{φ:Nat->Nat}{s i p I:Nat}{B:WB}{N:gF}{w:fq}{g:WG}{rest:iN}
theorem index_none(c)(b:Nat->Option Nat)(w)(h:nO w c b)(d:∀a,a<8->b a≠none):
  ik 176 #[.slice (some<|ii c 1) 8 8,.pointer none] w (PP (fY<|-1) w):=by
 have⟨m,e,_⟩:=h
 change Hid _ at e d
 go_enter func176,ntmps176;go_wp2
 go_loopw [8] (λi wr=>∃a:Nat,a<=8/\i=.int .i64 (a:Int)/\wr=w) (λi _=>8-(intOf i).toNat)
 case atStart=>exact⟨0,zt _,rfl,rfl⟩
 case round=>
  obtain⟨a,n,rfl,rfl⟩:=hrel;by_cases j:a=8
  ·subst j
   go_wp2;go_ret;exact⟨fX,fX⟩
  have k:a<8:=by omega
  have l:=e a k;cases f:b a with
  | none=>exact absurd f<|d a (by omega)
  | some x=>
   rw[f,oV] at l;have o:∀g,(binOp .eql 86 (.pointer none)<|ie x).run prog g=.ok (.bool false) g:=JD x;go_wp2;go_roundw
   case rel=>exact⟨a+1,by omega,by go_num,trivial⟩
   case measure=>simp[intOf];omega
def aig(a)(b:Nat->Option Nat)(w)(c:nO w a b)(d:∀f,f<8->b f≠fj):
  ik 119 #[fB<|fh (ii a 1)] w (PP (fC #[fY 0,fY 10]) w):=by
 have U:=index_none a b w c d;clear c d;go_enter func119,ntmps119;go_wp2_with(go_at_call 176;refine U.mono ?_;rintro e O ⟨rfl,rfl⟩);go_ret2;exact⟨fX,fX⟩
theorem ht1(c)(b)(fg:Int)(w:fq)(d:xQ b):ik 63 #[ie c,hh b,fY fg] w (ut (fC #[fY 0,fY 1]) w):=by
 go_enter func63,ntmps63;go_wp2_with(go_at_call 69;refine Calls.via (d _) λO a=>?_);go_ret2
 first|exact⟨fX,a⟩|exact⟨fX,a.alloc a.size _⟩
theorem UU(f)(l)(d:Good l)(fg:Int)(w:fq)(g:∀a,ik 118 #[fY fg] a<|PP (fE fo) a):
  ik 63 #[ie f,hh<|lA l,fY fg] w (ut (fC #[fY 0,fY 2]) w):=by
 have b:=λa=>kj l d a;obtain⟨h,i,j,k,Z,e⟩:=sf l;unfold ln at b;simp only[e]at b;clear e d;generalize lA l=m at b |-;go_enter func63,ntmps63;go_wp2_with(first
  |(go_at_call 69;refine Calls.via (b _) λO c=>?_)
  |(go_at_call 118;refine Calls.still (g _) ?_))
 go_ret2
 first|exact⟨fX,c⟩|exact⟨fX,c.alloc c.size _⟩
theorem atR(d)(e:Nat->Option Nat)(l)(g:Good l)(fg:Int)(w)(f:nO w d e)(h:∀i,i<8->e i≠fj)(m:∀a,ik 118 #[fY fg] a<|PP (fE fm) a):
  ik 63 #[ie d,hh<|lA l,fY fg] w (ut (fC #[fY 0,fY 10]) w):=by
 have c:=λa=>kj l g a;have n:=f.1;obtain⟨p,q,r,s,Z,j⟩:=sf l;unfold ln at c;simp only[j]at c;have k:=λa(o:ju w a)=>aig d e a (f.below o) h;have Bh:fe _:=k;clear j g k f h;generalize lA l=t at c |-;go_enter func63,ntmps63;go_wp2_with(first
  |(go_at_call 69;refine Calls.via (c _) λO b=>?_;have u:=np n b.size)
  |(go_at_call 118;refine Calls.still (m _) ?_)
  |(go_at_call 119;go_loud(refine Calls.still (Bh.o _<|b.alloc b.size _) ?_)))
 go_ret2
 first|exact⟨fX,b⟩|exact⟨fX,b.alloc b.size _⟩
theorem UW(t)(fg:Int)(w:fq):ik 120 #[ie t,fD<|ml kq kq kq kq kq,fY fg] w (ut (fC #[fB fj,fY 7]) w):=by
 have b:=λa=>QR a;have d:∀a,(Op.equalIn 10000 147 (ln [])<|ln []).run prog a=.ok fm a:=λa=>by
  have:=gX Good.nil Good.nil a
  rwa [qu fX]at this
 unfold ln jn at b d;simp only[tQ]at b d;go_enter func120,ntmps120;go_wp2
 go_region_with(go_at_call 75;refine(b _).via λO c=>?_;have⟨e,f⟩:=kw c;have g:=rY c)
 all_goals
  go_wp2;go_ret2;exact⟨fX,gS (il<|(mi _ _).alloc (lw _) _) c⟩
theorem IM{fl:Int}(a:Do fl=fm):(0<=fl/\fl<=63)/\(ma fl 8 ||ma fl 4)=ma fl 4:=by
 grind [Do,ma]
def MP (E:List fV)(data:fT)(hs:List BN)(p:fP)(fl:Int)(k:Nat)(a:fP):Option (Int×Int)->Opd
 |some x=>if x.1=2 then((0,7),E,data,hs)else if ma fl 8=fm then((0,6),E,data,hs) else(((k:Int),0),E,if ma fl 16=fm then data.set x.2.toNat ⟨#[]⟩else data,hs.set k (fm,x.2,fl,0))
 |none=>if ma fl 4=fo then((0,4),E,data,hs)else if 16<=fv (fU E a) then((0,11),E,data,hs)
  else(((k:Int),0),E++[(p,1,(fv data:Int))],data++[⟨#[]⟩],hs.set k (fm,(fv data:Int),fl,0))
theorem UX{a:fT}(g:a≠[])(fl:Int)(k)(d):xV E data hs (fG a) fl k d=MP E data hs (fG a) fl k d (gm E a):=by
 have b:=ry E<|fG a;rw[<-ng g]at b;unfold xV;cases c:Pl E (fG a) with
 |none=>
  rw[c]at b;rw[<-b];rfl
 |some i=>
  rw[c,wd]at b;rcases f:E[i]? with _|e
  exfalso
  have:=(yQ.1 c).1
  grind
  rw[f,oV]at b;rw[<-b];simp only[f];rfl
theorem CY{l:fT}{x:fP}(a:Good (l++[x]))(fl:Int):iJ E data hs (fG<|l++[x]) fl=if Do fl=fo then((0,2),E,data,hs)else if jD hs=8 then((0,10),E,data,hs)else if xq E (l++[x])≠0 then((0,xq E<|l++[x]),E,data,hs)else MP E data hs (fG<|l++[x]) fl (jD hs) (fG l) (gm E<|l++[x]):=by
 grind [iJ,iH,CQ,UX]
theorem UY{a}(b:(jz a).2=fo)(fl:Int):iJ E data hs a fl=((0,1),E,data,hs):=by unfold iJ;rw[lv b]
theorem xY(fl:Int):iJ E data hs (fG []) fl=if Do fl=fo then((0,2),E,data,hs)else if jD hs=8 then((0,10),E,data,hs) else((0,7),E,data,hs):=by
 grind [iJ,iH,Good.nil,List,ByteArray]
def QO (n m k:Nat)(x:Opd):Prop:=(x.1.2==14)=fo/\fv x.2.1<=n+1/\fv x.2.2.1<=m+1/\fv x.2.2.2=k
theorem ht2(a)(fl:Int):QO (fv E) (fv data) (fv hs) (iJ E data hs a fl):=by
 have l:∀e:Int×Int,(e.2==14)=fo->QO (fv E) (fv data) (fv hs) (e,E,data,hs):=λe b=>⟨b,jh _,jh _,fX⟩;refine ro (QO _ _ _) (l _ fX) ?_;refine ro (QO _ _ _) (l _ fX) ?_;refine ro (QO _ _ _) (l _ fX) ?_;refine ro (QO _ _ _) (l _ fX) ?_;refine ro (QO _ _ _) (l _<|hpv (Hf _ _)) ?_;unfold xV;cases Pl E a with
 |none=>
  refine ro (QO _ _ _) (l _ fX) ?_;exact ro (QO _ _ _) (l _ fX) ⟨fX,by simp,by simp,by simp⟩
 |some i=>
  simp only;rcases E[i]? with _|e
  exact l _ fX;simp only;refine ro (QO _ _ _) (l _ fX) ?_;refine ro (QO _ _ _) (l _ fX) ?_;refine⟨fX,jh _,?_,by simp⟩
  grind
theorem oP.ac7(c:oP A fl op t E data hs φ)(i:gf E data){p}{a:Nat}(j:fL p)(g:fl a≠fj)(l:t.at A p=fh (.held a)):gm E p=fh (1,(φ a:Int)):=by
 have b:=c.reads p j;unfold xc at b;rw[l,oV]at b;rcases d:gm E p with _|y
 rw[d]at b;cases b;rw[d,oV,pV]at b;have u:=tG i d;obtain⟨n,m⟩:=y;have v:n=1:=by
  rcases u with e|e
  exact e;have e:n=2:=e;subst e;rw[Iz,lv fX]at b;cases b
 subst v;obtain⟨w,x⟩:=i.num d fX;simp only at w x;obtain⟨k,rfl⟩:∃k:Nat,m=(k:Int):=⟨m.toNat,by omega⟩;by_cases e:φ a=k;rw[e];exfalso;have z:=(wH.1<|c.cont a g).1;have o:∀f:fP,f=(data[k]?).getD kq:=λf=>by
  have:=c.par (pC (gz A fl) a f) (data.set (φ a) f) ⟨by simp,λq r=>?_,λk B=>EF<|B a g⟩ p j
  unfold xc at this;rw[l,d,oV,oV,pV,Iz,km<|by simp,qE,EF e]at this;have s:Nd.file (pC (gz A fl) a f a)=Nd.file ((data[k]?).getD kq):=this;rw[ld]at s;exact Nd.file.inj s;by_cases h:q=a;rw[h,ld,Rm z];rw[kx h,EF λC=>h (c.inj _ _ g r C).symm,c.cont q r]
 have:=(o kq).trans (o ⟨#[0]⟩).symm
 cases this
theorem oP.least(c:oP A fl op t E data hs φ):(jD hs=8/\∀a,a<8->(op a).map (·.1)≠fj)\/(jD hs<8/\(op<|jD hs).map (·.1)=fj/\∀a,a<jD hs->(op a).map (·.1)≠fj):=by
 have h:∀a(b:a<8),(hs[a]'(by rw[c.h8];exact b)).1=(op a).isSome:=λa b=>by
  have:=c.tab a b
  rw[jH (by grind),pV]at this;rw[this];cases op a<;>rfl
 have i:∀{a},(op a).isSome=fm->(op a).map (·.1)≠fj:=λ{a}b=>by
  rcases e:op a with _|x
  rw[e]at b;cases b;simp
 rcases WN (jD hs) (fv hs) with d|d
 have g:jD hs<8:=by rw[<-c.h8];exact d
 have f:(!(hs[jD hs]'d).1)=fm:=List.findIdx_getElem (w:=d);refine .inr ⟨g,?_,λa b=>i ?_⟩;rw[h _ g]at f;rcases e:op (jD hs)with _|x
 rfl;rw[e]at f;cases f
 have:=List.not_of_lt_findIdx (p:=λc:BN=>!c.1) b
 grind
 have j:jD hs=8:=by
  have:jD hs<=fv hs:=List.findIdx_le_length
  have:=c.h8
  omega
 grind [List.not_of_lt_findIdx,jD]
def Rb(E)(data)(hs)(p)(fl:Int)(k)(a):MP E data hs p fl k a fj=if ma fl 4=fo then((0,4),E,data,hs)else if 16<=fv (fU E a) then((0,11),E,data,hs)
  else(((k:Int),0),E++[(p,1,(fv data:Int))],data++[kq],hs.set k (fm,(fv data:Int),fl,0)):=fX
def Rc(E)(data)(hs)(p)(fl:Int)(k)(a)(x:Int×Int):MP E data hs p fl k a (fh x)=if x.1=2 then((0,7),E,data,hs)else if ma fl 8=fm then((0,6),E,data,hs) else(((k:Int),0),E,if ma fl 16=fm then data.set x.2.toNat kq else data,hs.set k (fm,x.2,fl,0)):=fX
theorem Alt(h:jy N w s i p B A g I t)(hl:I+1000<1099511627776)(hb:g.fs.brk=fo)(U:gB A t)(hX:Exact A)(hY:kr A g.fl g.op t E data rest)(hnl:fv E<=1000000000)(hdl:fv data<=1000000000)(Sb)(S:fP)(hS:S.size<=1048576)(fg:Int)(hr:-9223372036854775808<=fg/\fg<9223372036854775808):
  ∃a er jv kM rest',(er==14)=fo/\rest'.drop 32=rest.drop 32/\fv jv<=fv E+1/\fv kM<=fv data+1/\
   (ik 63 #[ie B.wb,hh S,fY fg] w λe H=>e=pD #[fY a,fY er]/\vU s i p B A N w H g (I+400) jv kM rest')/\
   ∀{F:Nat->Prop}{O:fq},gi F O Sb E data rest->ik 94 #[ie Sb,hh S,fY fg] O λe H=>e=pD #[fY a,fY er]/\gi (kA F O H) H Sb jv kM rest'/\fH F O H:=by
 have hY':=hY;obtain⟨⟨φ,hs,more,rfl,hM⟩,UZ⟩:=hY;obtain⟨hwb,c0,hT⟩:=h.ws;obtain⟨o14,ol1,ol2,ol3⟩:=ht2 (E:=E) (data:=data) (hs:=hs) S fg;refine⟨(iJ E data hs S fg).1.1,(iJ E data hs S fg).1.2,(iJ E data hs S fg).2.1,(iJ E data hs S fg).2.2.1,xf (iJ E data hs S fg).2.2.2++more,o14,xX hM.h8<|ol3.trans hM.h8,ol1,ol2,?_,λhst=>by
  obtain⟨na,nc,da,dc,hst⟩:=hst;exact UT hst hM.h8 (UZ.fine hnl) UZ.kinds hdl S (by omega) fg⟩
 have same:∀{er:Int},iJ E data hs S fg=((0,er),E,data,hs)->(ik 63 #[ie B.wb,hh S,fY fg] w (ut (fC #[fY 0,fY er]) w))->
   ik 63 #[ie B.wb,hh S,fY fg] w λe H=>e=pD #[fY (iJ E data hs S fg).1.1,fY (iJ E data hs S fg).1.2]/\vU s i p B A N w H g (I+400) (iJ E data hs S fg).2.1 (iJ E data hs S fg).2.2.1 (xf (iJ E data hs S fg).2.2.2++more):=λe hc=>by
  rw[e];exact hc.mono λe H⟨he,hbl⟩=>⟨he,iw h hb U hY' hbl⟩
 have hval:=λW=>ZZ fg hr W;rcases nx (S:=S) (wy hS<|by decide) with⟨hf,hn⟩|⟨l,hG,rfl⟩
 ·all_goals grind [UY,ht1]
 cases hfl:Do fg with
 |false=>
  rw[hfl]at hval;refine same (er:=2) ?_ (by rw[<-vd];exact UU B.wb l hG fg w hval);rcases ny l with rfl|⟨n,r,rfl⟩
  all_goals grind [xY,CY]
 |true=>
  rw[hfl]at hval;have ac8:¬Do fg=fo:=by rw[hfl];simp
  obtain⟨hfg,hxc⟩:=IM hfl;rcases hM.least with⟨h8,hall⟩|⟨h8,hnone,hall⟩
  ·refine same (er:=10) ?_ (by rw[<-vd];exact atR B.wb _ l hG fg w hT hall hval)
   rcases ny l with rfl|⟨n,r,rfl⟩
   all_goals grind [xY,CY]
  have h8n:¬jD hs=8:=by omega
  obtain⟨k,hk⟩:∃k,k=jD hs:=⟨_,fX⟩;rcases ny l with rfl|⟨n,r,rfl⟩
  refine same (er:=7) (by grind [xY]) ?_;rw[<-vd];exact Dt B.wb B.bt (jD hs) _ fg [] Good.nil 7 (by decide) (λH=>ju w H) w hT c0 h8 hnone hall hval λW Va=>(UW B.bt fg W).mono λe H⟨he,hbl⟩=>⟨he,Va.trans<|hbl.mono Va.size⟩;have hv:=hG.val;have hS0:=hX.sound;obtain⟨_,_,hb4,hb8,ac9,_⟩:=Hp hfg;obtain⟨hN,hE⟩:=pR (yf A t g.fs r) hb;rw[mK]at hE;have hE:(pw A t g.fs r).2=jl A t r:=hE;have hup:=Mh hM.reads UZ hv.left n;have hop:=λW(Va:ju w W)=>YF (h.inv.below Va) (by omega) h.flat h.ok hG fg _ _ _ hb8 hb4 ac9;simp only[hE]at hop;generalize (pw A t g.fs r).1=fs' at hN hop;rw[CY hG,km ac8,km h8n,<-hup,<-vd];have Zip:∀er',er'≠0->(∀W,ju w W->ik 120 #[ie B.bt,fD<|jn (fx r++[n]),fY fg] W λe H=>e=pD #[fB fj,fY er']/\Left s i p B A N W H g fs' t (I+300))->
    ik 63 #[ie B.wb,hh<|lA (fx r++[n]),fY fg] w λe H=>e=pD #[fY 0,fY er']/\vU s i p B A N w H g (I+400) E data (xf hs++more):=by
   intro er' hne hc;refine(Dt B.wb B.bt (jD hs) _ fg _ hG er' hne _ w hT c0 h8 hnone hall hval λW Va=>(hc W Va).mono λe H⟨h1,h2⟩=>⟨h1,yB Va h2⟩).mono ?_;rintro e H ⟨h1,h2⟩;exact⟨h1,xS ((VK.of h h2).mono<|by omega) hb hN U hY'⟩
  by_cases h0:(jl A t r).1=0
  ·rw[km (by rw[h0];simp)]
   obtain⟨d,ha,hkd⟩:=uR h0;obtain⟨Y,hks⟩:∃Y,Y=(jl A t r).2:=⟨_,fX⟩;rw[<-hks]at hkd hop;rw[h0]at hop;have hkk:=lO hS0 (tA hS0 _ h.ok ha).2.1 hkd;have aa9:=uU hM.reads UZ hS0 h.ok ha hkd;have hee:∀er',BG Y n (ma fg 8) (ma fg 4)=er'->er'≠0->ik 63 #[ie B.wb,hh<|lA (fx r++[n]),fY fg] w λe H=>e=pD #[fY 0,fY er']/\vU s i p B A N w H g (I+400) E data (xf hs++more):=λer' he hne=>by
    refine Zip er' hne λW Va=>(hop W Va).mono ?_;rintro e H (⟨hx,_⟩|⟨_,hx,h1,h2⟩|⟨_,hx,_⟩);exact absurd fX hx;exact⟨by rw[<-he];exact h1,h2⟩;rw[he]at hx;exact absurd hx hne
   -- the file that is opened
   have hok:BG Y n (ma fg 8) (ma fg 4)=0->∀{jv:List fV}{kM:fT}{num:Int},(∀f KI t',w.heap.size<=f\/g.fl f≠fj->fM A 5 t'->Ts A w.heap.size g.fl Y t (fx r) n (ma fg 16) f KI t'->wE A KI/\(∃x,KI f=fh x)/\gB A t'/\∃ψ,num=((ψ f:Nat):Int)/\oP A KI g.op t' jv kM hs ψ/\gf jv kM)->
     ik 63 #[ie B.wb,hh<|lA (fx r++[n]),fY fg] w λe H=>e=pD #[fY (jD hs:Int),fY 0]/\vU s i p B A N w H g (I+400) jv kM (xf (hs.set (jD hs) (fm,num,fg,0))++more):=by
    intro hoe jv kM num hmk;refine(Tt B.wb B.bt (jD hs) (λk=>(g.op k).map (·.1)) fg _ hG (λf H=>∃M ft' KI t',fI (Mine i) N M w H/\fZ M H s i p B A { g with fs:=fs',ft:=ft',fl:=KI } (I+300)/\Flat A t' ft'/\fM A 5 t'/\Ts A w.heap.size g.fl Y t (fx r) n (ma fg 16) f KI t') w hT c0 h8 hnone hall hval (λW Va=>(hop W Va).mono ?_) ?_).mono ?_;rintro e H (⟨hx,_⟩|⟨_,hx,_⟩|⟨_,_,f,M,ft',KI,t',he,m,hW,hF,hO,hT⟩);exact absurd fX hx;exact absurd hoe hx;refine⟨f,he,M,ft',KI,t',mr Va m,hW,hF,hO,?_⟩;have hsz:=Va.size;rcases hT with⟨a1,a2,a3,a4⟩|a|⟨id,a1,a2,a3,a4⟩
    exact .inl ⟨a1,wy hsz a2,a3,a4⟩;exact .inr<|.inl a;exact .inr<|.inr ⟨id,a1,wy hsz a2,a3,a4⟩;rintro f H ⟨M,ft',KI,t',m,hW,_⟩;exact hW.wp.opens.tab.1;rintro e H ⟨he,f,O,⟨tg1,ft1,fl1,t1,m1,hW1,hF1,hO1,hT1⟩,rfl⟩;have hfo:w.heap.size<=f\/g.fl f≠fj:=by
     rcases hT1 with⟨_,a2,_⟩|⟨a1,_⟩|⟨id,_,a2,_⟩
     exact .inl a2;refine .inr ?_;have hun:t.at A (fx r++[n])=fh (.held f):=by rw[lx,ha,wd,lh,hkd,wd,a1,wd,oX]
     obtain⟨x,hx⟩:=h.inv.wp.held (fx r++[n]) f (by rw[h.flat.of,hun];rfl);rw[hx];simp;exact .inl a2
    obtain⟨ada,⟨x,hx⟩,hi1,ψ,rfl,hM1,adb⟩:=hmk f fl1 t1 hfo hO1 hT1;obtain⟨m2,hW2⟩:=hW1.aaq (k:=jD hs) (f:=f) (fg:=fg) h8 hx hfg.1 (by omega);refine⟨he,_,_,t1,m1.trans (m2.mono λx hx=>.inr (by rw[hx])),⟨hW2.mono<|by omega,hF1,hO1,ada⟩,hN.1.trans hb,fX,hN.2.2.1,hi1,⟨ψ,_,more,fX,hM1.opens h8 (fh (O.heap.size,f,fg,0)) λz hz=>?_⟩,adb⟩;cases hz;rw[hx];simp
   have Vb:∀{f},w.heap.size<=f->g.fl f=fj:=λ{f}hf=>by
    cases hg:g.fl f with
    |none=>rfl
    |some x=>
     obtain⟨id,d⟩:=x
     have:=(lW.1 (h.inv.wp.files f id d hg).2.1).1
     omega
   have pap:∀{f},w.heap.size<=f->∀y,t.at A y≠fh (.held f):=λ{f}hf y hy=>by
    obtain⟨x,hx⟩:=h.inv.wp.held y f (by rw[h.flat.of,hy];rfl);rw[Vb hf]at hx;cases hx
   have aba:∀f,gB A (.held f):=λf x y b hx hy=>by
    have:∀z,(LT.held f).at A z=fh (.held b)->z=[]:=λz hz=>by
     cases z with
     |nil=>rfl
     |cons m r=>rw[lh]at hz;simp[kids]at hz
    rw[this x hx,this y hy]
   have abb:∀{f},w.heap.size<=f->gB A (vy A (λY=>zr Y n<|.held f) (fx r) t):=λ{f}hf=>by
    refine Ma U hkk.1 ha hkd (aba f) λx b y hx hy=>?_;exfalso;cases x with
    |nil=>rw[oX]at hx;cases hx;exact pap hf y hy
    |cons m r=>rw[lh]at hx;simp[kids]at hx
   cases hp:jp Y n with
   |none=>
    have hln:gm E (fx r++[n])=fj:=(hM.reads.empty hv).2 (by grind [mX]);have hoE:=Ge hp (ex:=ma fg 8) (cr:=ma fg 4);rw[hxc]at hoE;rw[hln,Rb];cases abc:ma fg 4 with
    |false=>
     all_goals grind
    |true=>
     rw[abc,lv fX,aa9]at hoE;rw[abc]at hee hok;rw[km<|by simp];by_cases h16:16<=fv (fU E<|fG (fx r))
     ·all_goals grind
     rw[km h16]at hoE;rw[km h16];refine hok hoE λf KI t' _ hO' hT'=>?_;rcases hT' with⟨_,a2,rfl,rfl⟩|⟨a1,_⟩|⟨id,a1,_⟩
     show _/\_/\_/\∃ψ,_/\oP A _ _ _ (E++[(lA<|fx r++[n],1,(fv data:Int))]) (data++[kq]) hs ψ/\gf (E++[(lA<|fx r++[n],1,(fv data:Int))]) (data++[kq]);rw[vd];refine⟨h.fl.write f _,⟨_,ld _ _ _⟩,abb a2,pC φ f<|fv data,by rw[ld],hM.create hS0 h.ok UZ (Vb a2) hv ha hkd hp,?_⟩;have Rxo:=hM.reads (fx r) hv.left;have hk2:nz E (fG<|fx r)=2:=(hM.reads.tE UZ hv.left).2 (by
      unfold xc;rw[ha,oV];cases d with
      |file j=>simp[kids]at hkd
      |held j=>simp[kids]at hkd
      |dir j=>rfl
      |own es=>rfl)
     refine UZ.push hv hG.len ((mm UZ hv.left).2.1.1 hk2) hln (by omega) (.inl fX) (by simp) λ_=>⟨by omega,by simp only[lI,lq,zy];omega⟩
     all_goals grind
   |some c=>
    have hun:t.at A (fx r++[n])=fh c:=(by rw[lx,ha,wd,lh,hkd,wd,hp,wd,oX]);have hoE:=Gf hp (ex:=ma fg 8) (cr:=ma fg 4);have hrd:=hM.reads (fx r++[n]) hv;unfold xc at hrd;rw[hun,oV]at hrd;cases hlk:gm E (fx r++[n]) with
    |none=>rw[hlk]at hrd;cases hrd
    |some y=>
     rw[hlk,oV,pV]at hrd;have h12:=tG UZ hlk;have hkc:y.1=2↔c.kind=2:=by
      unfold Iz at hrd;constructor;intro e;rw[lv e]at hrd;cases c<;>first|rfl|cases hrd
      intro e;rcases h12 with e1|e1
      exfalso;rw[km<|by omega]at hrd;cases c<;>first|cases hrd|cases e
      exact e1
     rw[Rc];by_cases hk2:c.kind=2
     ·all_goals grind
     rw[km λe=>hk2<|hkc.1 e];rw[km hk2]at hoE;cases abd:ma fg 8 with
     |true=>
      all_goals grind
     |false=>
      rw[abd,km<|by simp]at hoE;rw[km<|by simp];rw[abd]at hok;have hy1:y.1=1:=h12.resolve_right λe=>hk2<|hkc.1 e;obtain⟨y1,y2⟩:=y;have hy1:y1=1:=hy1;subst hy1;obtain⟨m0,m1⟩:=UZ.num hlk fX;simp only at m0 m1;obtain⟨j,rfl⟩:∃j:Nat,y2=(j:Int):=⟨y2.toNat,by omega⟩;refine hok hoE λf KI t' hfo hO' hT'=>?_;rw[qE];rcases hT' with⟨a1,_⟩|⟨a1,rfl,rfl⟩|⟨id,a1,a2,rfl,rfl⟩
      ·all_goals grind
      ·rw[hp]at a1
       cases a1;have hff:g.fl f≠fj:=by
        all_goals grind
       have abf:=hM.ac7 UZ hv hff hun;rw[hlk,pV,vo]at abf;have hj:j=φ f:=by have:=abf.2;omega
       cases abg:ma fg 16 with
       |false=>
        rw[km<|by simp,km<|by simp];exact⟨h.fl,Rj.1 hff,U,φ,by rw[hj],hM,UZ⟩
       |true=>
        rw[lv fX,lv fX,hj];exact⟨h.fl.write f _,⟨_,ld _ _ _⟩,U,φ,fX,hM.write hff _,UZ.len<|by simp⟩
      rw[hp]at a1;cases a1;have hid:fK A id=1:=by
       have:=(tA hS0 _ h.ok hun).2.1
       generalize 5-fv (fx r++[n])=m at this;cases m<;>exact this
      have adg:id≠0:=λe=>by
       have:=(Br (A:=A) (id:=id)<|by omega).1
       omega
      have hM2:=hM.hold hS0 h.ok UZ (Vb a2) adg hv ha hkd hp hlk;have adh:wE A (pC g.fl f<|fh (id,kq)):=λf' id' d' hf' h0'=>by
       by_cases e:f'=f;rw[e,ld]at hf';cases hf';exact hid;rw[kx e]at hf';exact h.fl f' id' d' hf' h0'
      have hff:pC g.fl f (fh (id,kq)) f≠fj:=by rw[ld];simp
      cases abg:ma fg 16 with
      |false=>
       all_goals grind [ld,pC]
      |true=>
       rw[lv fX,lv fX];have hM3:=hM2.write hff kq;rw[ld]at hM3;exact⟨adh.write f _,⟨_,ld _ _ _⟩,abb a2,pC φ f j,by rw[ld],hM3,UZ.len<|by simp⟩
  rw[lv h0];refine Zip _ h0 λW Va=>(hop W Va).mono ?_;rintro e H (⟨_,h1,h2⟩|⟨hx,_⟩|⟨hx,_⟩)
  all_goals grind
