/- What is proved here: the end of hd2. -/
import Derived.Test.YtlgidcmmgohagaaGreatFileM19
import Derived.Deep.RegionHeld3
import Derived.Test.YtlgidcmmgohagaaGreatFileM18
import Derived.Test.YtlgidcmmgohagaaGreatFileM14
namespace Go.Proofs.YtlgidcmmgohagaaGreat
open Go.RowKit Go.Sort Go.Shelf Go.Proofs.Tryz
set_option linter.unusedVariables false
set_option maxRecDepth 100000
set_option maxHeartbeats 16000000
variable {dst q qf qt rf rt src:eL}{a b f i k lim:Nat}{d0 d1 d2 d3 d4 n nf nt s0 s1 s2 s3 s4:eD}{c d df dt t:LT}{ey:List Ob}{fs:FS}{kf ks kt:Kids}{fg id:Int}{w w':World}{es:List eN}{g:WG}{tg:eV}{op:Nat->Option (Nat×Nat×Int×Int)}{x:Int×eD}
theorem Ru(hr:eP kf)(c:t.at ey qf=some df)(hk:kids ey df=some kf)(ht:iv kf nf=true)(b:t.at ey qt=some dt)(d:kids ey dt=some kt)(PZ:¬(qf++[nf]) <+: qt)(hne:qt++[nt]≠qf++[nf])
  {d1:LT}{f:Kids}(a:(rb ey (fun ks=>np ks nf) qf t).at ey qt=some d1)(e2:kids ey d1=some f):(ip f nt).isSome=(ip kt nt).isSome/\f.length<=kt.length/\(qf=qt->f.length<kt.length):=by
 obtain⟨j,k⟩:=yj ey (fun ks=>np ks nf) qf t df kf c hk;by_cases h:qf <+: qt
 ·obtain⟨s,rfl⟩:=h
  cases s with
  |nil=>
   rw[ql]at b a hne ⊢;rw[k]at a;cases a;rw[c]at b;cases b;rw[hk]at d;cases d;have g:some (np kf nf)=some f:=e2;cases g;have hn:nt≠nf:=fun e=>hne (by rw[e])
   have hl:=wP ht;have n:=qq ht;exact⟨by rw[jD hr ht,fY hn],by omega,fun _=>by omega⟩
  |cons m r=>
   have hm:m≠nf:=fun e=>PZ (by rw[e];exact⟨r,by simp⟩);rw[j,jD hr ht,fY hm]at a;rw[kB,c,qr,kh,hk,qr]at b;rw[b]at a;cases a;rw[d]at e2;cases e2;exact⟨rfl,kx _,fun e=>by have:=xr List.length e;simp at this⟩
 ·by_cases h2:qt <+: qf
  ·obtain⟨m,hm,l⟩:=kH h2 (fun e=>h (e▸oU _))
   obtain⟨r,i⟩:=l;have i:qf=qt++m::r:=by rw[<-i];simp
   rw[i]at c a;obtain⟨o,p,h1,h2,h3⟩:=mI ey (fun ks=>np ks nf) qt m r t df c;rw[b]at h1;cases h1;rw[d]at h2;cases h2;rw[h3]at a;cases a;have g:=e2;simp only[kids,mZ]at g;rw[<-g];refine⟨?_,by rw[nD];exact kx _,fun e=>by rw[i]at e;have:=xr List.length e;simp at this⟩;rw[nu];split
   ·cases ip kt nt<;>rfl
   ·rfl
  ·rw[jC ey _ qf qt t df c h2 h,b]at a
   cases a;rw[d]at e2;cases e2;exact⟨rfl,kx _,fun e=>absurd (e▸oU _) h⟩
theorem Rv(f:t.at ey qf=some df)(hk:kids ey df=some kf)(hp:ip kf nf=some c)(b:t.at ey qt=some dt)(d:kids ey dt=some kt)(hne:qt++[nt]≠qf++[nf])
  (g:∀e,ip kt nt=some e->kids ey e=none\/kids ey e=some []):¬(qt++[nt]) <+: (qf++[nf]):=by
 rintro⟨r,hr⟩;have hc:t.at ey (qf++[nf])=some c:=by rw[kB,f,qr,kh,hk,qr,hp,qr,mr]
 cases r with
 |nil=>rw[ql]at hr;exact hne hr
 |cons m r=>
  rw[<-hr]at hc;cases a:ip kt nt with
  |none=>
   rw[kC,kB,b,qr,SY,kh,d,qr,a]at hc;cases hc
  |some e=>
   have h:t.at ey (qt++[nt])=some e:=by rw[kB,b,qr,kh,d,qr,a,qr,mr]
   rw[mJ h (g e a)]at hc;cases hc
section
variable {s i p:Nat}{B:WB}{ey:List Ob}
theorem MF(h:eT tg w s i p B ey g lim)(hl:lim<1099511627776)(c:Good src)(a:Good dst)(d:∀x,dst <+: x->g.ft.of x=none)(b:∀x f,src <+: x->g.ft.of x=some f->dst.length+(x.length-src.length)<=5):
  gc 144 #[.map (some B.oF),.agg (fy src),.agg (fy dst)] w fun e w'=>e=.returned (.tuple #[])/\eB (fun t=>t=(i,4)) tg tg w w'/\eT tg w' s i p B ey { g with ft:={ g.ft with of:=xa g.ft.of src dst } } lim:=by
 obtain⟨ht,⟨n,hn,hm⟩,hg⟩:=h.wp.qG;refine(Jw B.oF n _ src dst w c a hm (by omega) (fun x hx=>by rw[d x hx];rfl) (fun x hx hne=>?_) (fun x hne=>?_)).mono fun e w' ⟨h1,h2,h3⟩=>⟨h1,Dm h a b hn h2 h3⟩
 ·cases hf:g.ft.of x with
  |none=>rw[hf]at hne;exact absurd rfl hne
  |some f=>exact b x f hx hf
 ·cases hf:g.ft.of x with
  |none=>rw[hf]at hne;exact absurd rfl hne
  |some f=>exact hg x f hf
theorem MG(h:eT tg w s i p B ey g lim)(hl:lim<1099511627776)(c:Good src)(a:Good dst)(d:∀x,dst <+: x->g.ft.od x=none)(b:∀x f,src <+: x->g.ft.od x=some f->dst.length+(x.length-src.length)<=5):
  gc 145 #[.map (some B.oD),.agg (fy src),.agg (fy dst)] w fun e w'=>e=.returned (.tuple #[])/\eB (fun t=>t=(i,5)) tg tg w w'/\eT tg w' s i p B ey { g with ft:={ g.ft with od:=xa g.ft.od src dst } } lim:=by
 obtain⟨vD,hD⟩:=h.wp.nI;obtain⟨n,hn,hm⟩:=hD.map;refine(Jx B.oD n _ src dst w c a hm (by omega) (fun x hx=>by rw[d x hx];rfl) (fun x hx hne=>?_) (fun x hne=>?_)).mono fun e w' ⟨h1,h2,h3⟩=>⟨h1,Gl h hD a b hn h2 h3⟩
 ·cases hf:g.ft.od x with
  |none=>rw[hf]at hne;exact absurd rfl hne
  |some f=>exact b x f hx hf
 ·cases hf:g.ft.od x with
  |none=>rw[hf]at hne;exact absurd rfl hne
  |some f=>exact(hD.good x f hf).1
def oQ (tg:eV)(w w':World):Prop:=w.heap.size<=w'.heap.size/\∀b,b<w.heap.size->tg b=(0,0)->∀o,w'.cell? ⟨b,o,none⟩=w.cell? ⟨b,o,none⟩
theorem oQ.nx{tg eF:eV}(hi:2<=i)(m:eB (Mine i) tg eF w w'):oQ tg w w':=⟨m.size,fun b a ht o=>vd hi m a ht o⟩
end
theorem OC:∀(n m:Nat) {c:LT},n<=m->eU ey n c->eU ey m c
 |n,m,.file id,_,h=>by
  have:eM ey id=1:=by cases n<;>simpa [eU]using h
  cases m<;>simpa [eU]using this
 |n,m,.held f,_,_=>by cases m<;>simp[eU]
 |n,m,.dir id,a,h=>by
  have h1:eM ey id=2/\fB ey id<=n:=by cases n<;>simpa [eU]using h
  have h2:fB ey id<=m:=by omega
  cases m<;>(rw[eU];exact⟨h1.1,h2⟩)
 |0,m,.own es,_,h=>by
  rw[eU]at h
  subst h
  exact vC List.Pairwise.nil (by simp) (by simp)
 |n+1,0,.own es,a,_=>by omega
 |n+1,m+1,.own es,a,h=>by
  rw[eU]at h ⊢
  exact⟨h.1,h.2.1,fun x hx=>⟨(h.2.2 x hx).1,OC n m (by omega) (h.2.2 x hx).2⟩⟩
theorem uE(hS:Sound ey){n:Nat}(a:eU ey n d)(hk:kids ey d=some ks):lY ey (ks.map mn):=by
 obtain⟨b,c,f⟩:=lj hS a hk;refine⟨by rw[lK];exact kT _ b,by rw[nD];exact c,fun e g=>?_⟩;obtain⟨x,hx,rfl⟩:=ij.1 g;obtain⟨h1,m,_,h3⟩:=f x hx;exact⟨h1,BN h3 x.1⟩
section
variable {s i p:Nat}{B:WB}{ey:List Ob}
def MH (B:WB)(w:World):Prop:=B.bt<w.heap.size/\w.cell? ⟨B.bt,7,none⟩=some (.map (some B.oF))/\w.cell? ⟨B.bt,8,none⟩=some (.map (some B.oD))
theorem eT.tN(h:eT tg w s i p B ey g lim):MH B w:=by
 obtain⟨h1,h2,h3,_⟩:=h.wp.tree.cells;exact⟨h1,h3,h2⟩
theorem Vi(t:Nat×Nat)(h:t=(i,4)):Mine i t:=.inr (by rw[h])
theorem YY(t:Nat×Nat)(h:t=(i,5)):Mine i t:=.inr (by rw[h])
theorem Gm(h:eT tg w s i p B ey g lim)(hl:lim+700<1099511627776)(hF:Flat ey t g.ft)(d:eU ey 5 t)(z:Good (qf++[nf]))(n:Good (qt++[nt]))
  (b:t.at ey qf=some df)(hk:kids ey df=some kf)(hp:ip kf nf=some c)(j:t.at ey qt=some dt)(k:kids ey dt=some kt)(K:fO ey t g.fs qf)(hwt:fO ey t g.fs qt)
  (PZ:¬(qf++[nf]) <+: (qt++[nt]))(L:∀e,ip kt nt=some e->kids ey e=none\/kids ey e=some [])(iE:ip kt nt=none->kt.length<16\/qf=qt)(aO:((qt.length+1:Nat):Int)+ig ey 5 c<=5)(nm:eD):
  gc 138 #[hh B.bt,.agg (fy (qf++[nf]))] w fun e o=>e=.returned (.tuple #[])/\oQ tg w o/\
   gc 135 #[hh B.bt,.agg (fy (qt++[nt])),.agg #[.string nm,eJ c.kind,eJ c.id]] o fun e A=>e=.returned (.tuple #[])/\oQ tg w A/\
    ∀W2,ik A W2->oQ tg w W2/\MH B W2/\gc 144 #[.map (some B.oF),.agg (fy (qf++[nf])),.agg (fy (qt++[nt]))] W2 fun e w3=>e=.returned (.tuple #[])/\
     ∀W3,ik w3 W3->oQ tg w W3/\MH B W3/\gc 145 #[.map (some B.oD),.agg (fy (qf++[nf])),.agg (fy (qt++[nt]))] W3 fun e M=>e=.returned (.tuple #[])/\
      Left s i p B ey tg w M g g.fs (rb ey (fun ks=>sf ks nt c) qt (rb ey (fun ks=>np ks nf) qf t)) (lim+300):=by
 have hS:=h.st.sound;have hi:=h.two;have N:=(py hS _ d b).2.1;have O:=(lj hS N hk).1;have P:iv kf nf=true:=by rw[<-oY O,hp];rfl
 have hne:qt++[nt]≠qf++[nf]:=fun e=>PZ (e▸oU _);have hnt:=Rv b hk hp j k hne L;have Oi:¬(qf++[nf]) <+: qt:=fun hx=>PZ (hx.trans (nG _ _));have Q:t.at ey (qf++[nf])=some c:=by rw[kB,b,qr,kh,hk,qr,hp,qr,mr]
 have R:=(py hS _ d Q).2.1;have aP:qt.length+1<=5:=by have:=n.len;simp at this;omega
 have S:eU ey (5-(qt.length+1)) c:=TX hS 5 (by
  have h1:=R;exact OC _ _ (Nat.sub_le _ _) h1) (by omega)
 have T:=Hk hS hF d b hk K;have U:=jl b hk;have aq:lY ey (lX ey t qf):=by rw[U];exact uE hS N hk
 have ar:iv (lX ey t qf) nf=true:=by rw[U,WF];exact P
 obtain⟨d1,aQ,q,e2,au,C⟩:=Ip hS hF d b hk hp j k K hwt PZ hnt;obtain⟨V,aR,W⟩:=Ru O b hk P j k Oi hne q e2;have X:=wT hS d b hk nf;have D:=(py hS _ X q).2.1;have E:=jl q e2;have Y:lY ey (lX ey (rb ey (fun ks=>np ks nf) qf t) qt):=by rw[E];exact uE hS D e2
 have Z:iv (lX ey (rb ey (fun ks=>np ks nf) qf t) qt) nt=(ip kt nt).isSome:=by rw[E,WF,<-oY (lj hS D e2).1,V]
 obtain⟨t1,t2,t3⟩:=vE T nf;obtain⟨aS,aa,ab,av,aw⟩:=uo C nt (c.kind,c.id);have ac:mj ey (nt,c.kind,c.id):=BN R nt;have ax:∀r,t.at ey (qt++nt::r)≠none->∃e,ip kt nt=some e/\r=[]:=fun r hr=>by
  cases F:ip kt nt with
  |none=>rw[kB,j,qr,kh,k,qr,F]at hr;exact absurd rfl hr
  |some e=>
   cases r with
   |nil=>exact⟨e,rfl,rfl⟩
   |cons m r=>
    have ay:t.at ey (qt++[nt])=some e:=by rw[kB,j,qr,kh,k,qr,F,qr,mr]
    have:=mJ ay (L e F) m r
    rw[kC,SY]at this;exact absurd this hr
 have ad:∀x,(qt++[nt]) <+: x->(lB ey g.fs (jU ey g.fs g.ft qf nf) qt nt (c.kind,c.id)).od x=none/\(lB ey g.fs (jU ey g.fs g.ft qf nf) qt nt (c.kind,c.id)).of x=none:=by
  rintro x ⟨r,rfl⟩;rw[kC,SY];have ae:r≠[]\/ip kt nt=none->t.at ey (qt++nt::r)=none:=fun hr=>by
   cases hx:t.at ey (qt++nt::r) with
   |none=>rfl
   |some y=>
    obtain⟨e,az,aA⟩:=ax r (by rw[hx];simp);rcases hr with hr|hr
    ·exact absurd aA hr
    ·rw[az]at hr;cases hr
  have G:qt++nt::r≠qt:=fun e=>by have:=xr List.length e;simp at this
  have H:¬(qt++nt::r) <+: qt:=fun e=>by have:=e.length_le;simp at this;omega
  have u:qt++nt::r≠qf:=fun e=>hnt (by rw[<-e];exact⟨r++[nf],by simp⟩);have v:¬(qt++nt::r) <+: qf:=fun e=>hnt ((List.IsPrefix.trans ⟨r,by simp⟩ e).trans (nG _ _));by_cases hr:r=[]
  ·subst hr
   rw[av,aw];by_cases a:iv (lX ey (rb ey (fun ks=>np ks nf) qf t) qt) nt=true
   ·rw[ie a,ie a];exact⟨rfl,rfl⟩
   ·have I:ip kt nt=none:=by
     rw[Z]at a;cases hc:ip kt nt with
     |none=>rfl
     |some y=>rw[hc]at a;exact absurd rfl a
    rw[fY a,fY a,t2,fY u,fY v,t3,hF.od,hF.of,ae (.inr I)];exact⟨rfl,rfl⟩
  ·have hx:qt++nt::r≠qt++[nt]:=fun e=>hr (by simpa using e)
   rw[aa _ hx,ab _ hx,fY G,fY H,t2,fY u,fY v,t3,hF.od,hF.of,ae (.inl hr)];exact⟨rfl,rfl⟩
 have af:∀x,(qf++[nf]) <+: x->(lB ey g.fs (jU ey g.fs g.ft qf nf) qt nt (c.kind,c.id)).od x=vu (t.at ey x)/\(lB ey g.fs (jU ey g.fs g.ft qf nf) qt nt (c.kind,c.id)).of x=Lp (t.at ey x)/\(t.at ey x≠none->(qt++[nt]).length+(x.length-(qf++[nf]).length)<=5):=by
  rintro x ⟨r,rfl⟩;have hx:(qf++[nf])++r≠qt++[nt]:=fun e=>PZ (by rw[<-e];exact nG _ _)
  have G:(qf++[nf])++r≠qt:=fun e=>Oi (by rw[<-e];exact nG _ _);have H:¬((qf++[nf])++r) <+: qt:=fun e=>Oi ((nG _ _).trans e);have u:(qf++[nf])++r≠qf:=fun e=>by have:=xr List.length e;simp at this;try omega
  have v:¬((qf++[nf])++r) <+: qf:=fun e=>by have:=e.length_le;simp at this;omega
  refine⟨by rw[aa _ hx,fY G,fY H,t2,fY u,fY v,hF.od],by rw[ab _ hx,t3,hF.of],fun hr=>?_⟩;cases J:t.at ey ((qf++[nf])++r) with
  |none=>exact absurd J hr
  |some y=>
   rw[kB,Q,qr]at J
   have:=(py hS _ S J).1
   simp;omega
 obtain⟨vD,aB⟩:=h.wp.nI;refine(Jq h aB (by omega) z T aq ar).mono ?_;rintro e o ⟨rfl,aC,aT,ag,ah,ai⟩;refine⟨rfl,oQ.nx hi ag,?_⟩;have aD:gc 135 #[hh B.bt,.agg (fy (qt++[nt])),.agg #[.string nm,eJ c.kind,eJ c.id]] o fun aE w'=>aE=.returned (.tuple #[])/\∃eF aF,eB (Mine i) aC eF o w'/\
   eT eF w' s i p B ey { g with ft:=lB ey g.fs (jU ey g.fs g.ft qf nf) qt nt (c.kind,c.id) } (lim+150+150)/\fC eF w' i B (lB ey g.fs (jU ey g.fs g.ft qf nf) qt nt (c.kind,c.id)).od (lim+150+150) aF:=by
  cases a:iv (lX ey (rb ey (fun ks=>np ks nf) qf t) qt) nt with
  |true=>exact UU ah ai (by omega) n C Y a nm c.kind c.id ac
  |false=>
   refine Ge ah ai (by omega) n C Y a ?_ nm c.kind c.id ac;rw[E,nD];have I:ip kt nt=none:=by
    rw[Z]at a;cases hc:ip kt nt with
    |none=>rfl
    |some y=>rw[hc]at a;cases a
   have aG:=(lj hS (py hS _ d j).2.1 k).2.1;rcases iE I with hx|hx
   ·omega
   ·have:=W hx;omega
 refine aD.mono ?_;rintro e A ⟨rfl,aH,aU,aI,aJ,aV⟩;have aj:=ag.trans aI;refine⟨rfl,oQ.nx hi aj,fun W2 ak=>?_⟩;have al:=aJ.below ak;have am:=aj.trans (eB.eE ak);refine⟨oQ.nx hi am,al.tN,?_⟩;refine(MF al (by omega) z n (fun x hx=>(ad x hx).2) (fun x f hx hf=>?_)).mono ?_
 ·obtain⟨_,a2,a3⟩:=af x hx
  have l:(lB ey g.fs (jU ey g.fs g.ft qf nf) qt nt (c.kind,c.id)).of x=some f:=hf;rw[a2]at l;exact a3 (fun e=>by rw[e]at l;cases l)
 ·rintro e w3 ⟨rfl,aK,aL⟩
  refine⟨rfl,fun W3 an=>?_⟩;have ao:=aL.below an;have ap:=(am.trans (aK.mono Vi)).trans (eB.eE an);refine⟨oQ.nx hi ap,ao.tN,?_⟩;refine(MG ao (by omega) z n (fun x hx=>(ad x hx).1) (fun x f hx hf=>?_)).mono ?_
  ·obtain⟨a1,_,a3⟩:=af x hx
   have l:(lB ey g.fs (jU ey g.fs g.ft qf nf) qt nt (c.kind,c.id)).od x=some f:=hf;rw[a1]at l;exact a3 (fun e=>by rw[e]at l;cases l)
  ·rintro e M ⟨rfl,aM,aN⟩
   refine⟨rfl,aH,_,ap.trans (aM.mono YY),aN,au,?_⟩;exact Gf hS X q e2 (n.val nt (by simp)) (by omega) S (by
    rw[<-oY (lj hS D e2).1,V];cases hc:ip kt nt with
    |some y=>exact .inl rfl
    |none=>
     right
     have aG:=(lj hS (py hS _ d j).2.1 k).2.1;rcases iE hc with hx|hx
     ·omega
     ·have:=W hx;omega)
end
theorem Jy{e c:LT}(h:(jd ey fs e c).2=0):fs.Next (jd ey fs e c).1/\(kids ey e=none\/kids ey e=some []):=by
 unfold jd at h ⊢;by_cases h1:e.kind=2/\c.kind=1
 ·rw[ie h1]at h;cases h
 ·rw[fY h1]at h ⊢
  by_cases h2:e.kind=1/\c.kind=2
  ·rw[ie h2]at h;cases h
  ·rw[fY h2]at h ⊢
   exact zw h
theorem Rw{b:Bool}(h:(jM ey fs b ks n c).2=0):fs.Next (jM ey fs b ks n c).1/\(∀e,ip ks n=some e->kids ey e=none\/kids ey e=some [])/\(ip ks n=none->ks.length<16\/b=true):=by
 unfold jM at h ⊢;cases hp:ip ks n with
 |some e=>
  rw[hp]at h;simp only at h ⊢;obtain⟨h1,h2⟩:=Jy h;exact⟨h1,fun d a=>by cases a;exact h2,fun hn=>by cases hn⟩
 |none=>
  rw[hp]at h;simp only at h ⊢;by_cases iE:16<=ks.length/\b=false
  ·rw[ie iE]at h;cases h
  ·rw[fY iE]
   refine⟨FS.Next.refl _,fun e a=>(by cases a),fun _=>?_⟩;by_cases hl:ks.length<16
   ·exact .inl hl
   ·right
    cases b with
    |true=>rfl
    |false=>exact absurd ⟨by omega,rfl⟩ iE
section
variable {s i p:Nat}{B:WB}{ey:List Ob}
theorem Vj(h:eT tg w s i p B ey g lim)(hl:lim+10<1099511627776)(hF:Flat ey t g.ft)(b:eU ey 5 t)(f:Good (rf.reverse++[nf]))(j:Good (rt.reverse++[nt]))(k:t.at ey rt.reverse=some d)(hk:kids ey d=some ks){v:Value}(hs:sA tg w i v (ks.map mn))(a:eD):
  gc 141 #[hh B.bt,.agg (fy (rf.reverse++[nf])),.agg (fy (rt.reverse++[nt])),.agg #[.string a,eJ c.kind,eJ c.id],v] w fun l w'=>l=.returned (eJ (jM ey g.fs (decide (rf=rt)) ks nt c).2)/\jR s i p B ey tg w w' { g with fs:=(jM ey g.fs (decide (rf=rt)) ks nt c).1 } (lim+1):=by
 unfold jM;cases hp:ip ks nt with
 |some e=>exact Mo h hl hF b f j k hk hp hs a
 |none=>
  have hc:(16<=ks.length/\decide (rf=rt)=false)↔(16<=ks.length/\rf.reverse≠rt.reverse):=by
   simp[List.reverse_inj]
  refine(Rm h hF b f j k hk hp hs a c.kind c.id).mono fun l w' ⟨h1,h2⟩=>?_;simp only[hc];by_cases iE:16<=ks.length/\rf.reverse≠rt.reverse
  ·rw[if_pos iE]at h1 ⊢;exact⟨h1,h2.mono (Nat.le_succ _)⟩
  ·rw[if_neg iE]at h1 ⊢;exact⟨h1,h2.mono (Nat.le_succ _)⟩
end
def qL (w':World)(a:Nat)(b c d e f:eD):Prop:=w'.cell? ⟨a,0,none⟩=some (.string b)/\w'.cell? ⟨a,1,none⟩=some (.string c)/\w'.cell? ⟨a,2,none⟩=some (.string d)/\w'.cell? ⟨a,3,none⟩=some (.string e)/\w'.cell? ⟨a,4,none⟩=some (.string f)
theorem qL.keep{b c d e f:eD}(h:qL w a b c d e f)(g:∀o,w'.cell? (eI a o)=w.cell? (eI a o)):qL w' a b c d e f:=by
 unfold qL at h ⊢;simp only[g];exact h
def jH (w':World)(a b:Nat)(s0 s1 s2 s3 s4 d0 d1 d2 d3 d4:eD):Prop:=w'.cell? ⟨a,0,none⟩=some (.string s0)/\w'.cell? ⟨a,1,none⟩=some (.string s1)/\w'.cell? ⟨a,2,none⟩=some (.string s2)/\w'.cell? ⟨a,3,none⟩=some (.string s3)/\w'.cell? ⟨a,4,none⟩=some (.string s4)/\w'.cell? ⟨b,0,none⟩=some (.string d0)/\w'.cell? ⟨b,1,none⟩=some (.string d1)/\w'.cell? ⟨b,2,none⟩=some (.string d2)/\w'.cell? ⟨b,3,none⟩=some (.string d3)/\w'.cell? ⟨b,4,none⟩=some (.string d4)
theorem jH.keep(h:jH w a b s0 s1 s2 s3 s4 d0 d1 d2 d3 d4)(c:∀o,w'.cell? (eI a o)=w.cell? (eI a o))(d:∀o,w'.cell? (eI b o)=w.cell? (eI b o)):jH w' a b s0 s1 s2 s3 s4 d0 d1 d2 d3 d4:=by
 unfold jH at h ⊢;simp only[c,d];exact h
theorem jH.below(h:jH w a b s0 s1 s2 s3 s4 d0 d1 d2 d3 d4)(hw:ik w w')(c:a<w.heap.size)(d:b<w.heap.size):jH w' a b s0 s1 s2 s3 s4 d0 d1 d2 d3 d4:=
 h.keep (fun o=>(ii hw).1 a o c) (fun o=>(ii hw).1 b o d)
theorem Ex(w:World)(s0 s1 s2 s3 s4 d0 d1 d2 d3 d4:eD):jH ((w.alloc (.cells (kq s0 s1 s2 s3 s4) 147)).alloc (.cells (kq d0 d1 d2 d3 d4) 147)).drew w.heap.size (w.heap.size+1) s0 s1 s2 s3 s4 d0 d1 d2 d3 d4/\w.heap.size<((w.alloc (.cells (kq s0 s1 s2 s3 s4) 147)).alloc (.cells (kq d0 d1 d2 d3 d4) 147)).drew.heap.size/\w.heap.size+1<((w.alloc (.cells (kq s0 s1 s2 s3 s4) 147)).alloc (.cells (kq d0 d1 d2 d3 d4) 147)).drew.heap.size/\ik w ((w.alloc (.cells (kq s0 s1 s2 s3 s4) 147)).alloc (.cells (kq d0 d1 d2 d3 d4) 147)).drew:=by
 refine⟨?_,by simp;omega,by simp,gS (((lh _ _).alloc (kx _) _).alloc (by simp) _)⟩;have h1:=Zi w (.cells (kq s0 s1 s2 s3 s4) 147) (.cells (kq d0 d1 d2 d3 d4) 147);have h2:=heap_alloc2_new w (.cells (kq s0 s1 s2 s3 s4) 147) (.cells (kq d0 d1 d2 d3 d4) 147);obtain⟨_,a,a1,a2,a3,b,_⟩:=rJ h1;obtain⟨_,c,d,e,f,g,_⟩:=rJ h2;exact⟨a,a1,a2,a3,b,c,d,e,f,g⟩
theorem jH.kept(h:jH w a b s0 s1 s2 s3 s4 d0 d1 d2 d3 d4)(k:oQ tg w w')(c:a<w.heap.size)(d:b<w.heap.size)(ta:tg a=(0,0))(e:tg b=(0,0)):jH w' a b s0 s1 s2 s3 s4 d0 d1 d2 d3 d4:=
 h.keep (k.2 a c ta) (k.2 b d e)
theorem jH.and(h:jH w' a b s0 s1 s2 s3 s4 d0 d1 d2 d3 d4){q:Prop}(hq:q):w'.cell? (eI a 0)=some (.string s0)/\w'.cell? (eI a 1)=some (.string s1)/\w'.cell? (eI a 2)=some (.string s2)/\w'.cell? (eI a 3)=some (.string s3)/\w'.cell? (eI a 4)=some (.string s4)/\w'.cell? (eI b 0)=some (.string d0)/\w'.cell? (eI b 1)=some (.string d1)/\w'.cell? (eI b 2)=some (.string d2)/\w'.cell? (eI b 3)=some (.string d3)/\w'.cell? (eI b 4)=some (.string d4)/\q:=by
 obtain⟨h0,h1,h2,h3,c,d,h6,e,h8,f⟩:=h;exact⟨h0,h1,h2,h3,c,d,h6,e,h8,f,hq⟩
def tO (w':World)(a:Nat)(n:eD)(k id:Int):Prop:=w'.cell? ⟨a,0,none⟩=some (.string n)/\w'.cell? ⟨a,1,none⟩=some (.int .i64 k)/\w'.cell? ⟨a,2,none⟩=some (.int .i64 id)
theorem tO.keep{k id:Int}(h:tO w a n k id)(b:∀o,w'.cell? (eI a o)=w.cell? (eI a o)):tO w' a n k id:=by
 unfold tO at h ⊢;simp only[b];exact h
theorem tO.of_block{k id:Int}{t:gi}(h:w.heap[b]?=some (.cells #[.string n,eJ k,eJ id] t (0,0))):tO w b n k id:=
 ⟨by simp[World.cell?,h],by simp[World.cell?,h],by simp[World.cell?,h]⟩
theorem Rx(w:World)(n:eD)(k id:Int):tO (w.alloc (.cells #[.string n,eJ k,eJ id] 96)) w.heap.size n k id:=.of_block (su w _)
section
variable {s i p:Nat}{B:WB}{ey:List Ob}
theorem Jz{d c:World}{fs':FS}{t':LT}(h:jH d a b s0 s1 s2 s3 s4 d0 d1 d2 d3 d4)(e:a<d.heap.size)(f:b<d.heap.size)(ta:tg a=(0,0))(j:tg b=(0,0))(hi:2<=i)(k:Left s i p B ey tg d c g fs' t' lim):
  c.cell? (eI a 0)=some (.string s0)/\c.cell? (eI a 1)=some (.string s1)/\c.cell? (eI a 2)=some (.string s2)/\c.cell? (eI a 3)=some (.string s3)/\c.cell? (eI a 4)=some (.string s4)/\c.cell? (eI b 0)=some (.string d0)/\c.cell? (eI b 1)=some (.string d1)/\c.cell? (eI b 2)=some (.string d2)/\c.cell? (eI b 3)=some (.string d3)/\c.cell? (eI b 4)=some (.string d4)/\c.cell? (eI B.bt 8)=some (.map (some B.oD)):=by
 obtain⟨n,o,l,m,_,_⟩:=k;exact(jH.kept h (oQ.nx hi l) e f ta j).and m.tN.2.2
theorem JA(h:eT tg w s i p B ey g lim)(hl:lim+1000<1099511627776)(hF:Flat ey t g.ft)(aU:eU ey 5 t)(F:Good (rf.reverse++[nf]))(z:Good (rt.reverse++[nt])):
  gc 72 #[hh B.bt,.agg (fy (rf.reverse++[nf])),.agg (fy (rt.reverse++[nt]))] w fun j w'=>j=.returned (eJ (xc ey t g.fs (nf::rf) (nt::rt)).2.1)/\Left s i p B ey tg w w' g (xc ey t g.fs (nf::rf) (nt::rt)).1 (xc ey t g.fs (nf::rf) (nt::rt)).2.2 (lim+400):=by
 have hS:=h.st.sound;have hi:=h.two;have dU:rf.length<=4:=by have:=F.len;simp at this;omega
 have dV:rt.length<=4:=by have:=z.len;simp at this;omega
 have A:=fun W (aV:ik w W)=>tH (s:=s) (i:=i) (p:=p) (B:=B) (ey:=ey) (nf::rf) tg W g lim (h.below aV) (by omega) (by rw[qh];exact F);rw[qh]at A;obtain⟨f1,f2,f3⟩:=qs hS hF aU g.fs (nf::rf);simp only[f1,f2]at A;have d:xc ey t g.fs (nf::rf) (nt::rt)=if(il ey t g.fs (nf::rf)).2.1≠0 then((il ey t g.fs (nf::rf)).1,(il ey t g.fs (nf::rf)).2.1,t)else if(nf::rf).reverse <+: (nt::rt).reverse/\nf::rf≠nt::rt then((il ey t g.fs (nf::rf)).1,9,t) else
   if(lL ey t (il ey t g.fs (nf::rf)).1 rt).2.1≠0\/nf::rf=nt::rt then((lL ey t (il ey t g.fs (nf::rf)).1 rt).1,(lL ey t (il ey t g.fs (nf::rf)).1 rt).2.1,t) else
   if(jM ey (lL ey t (il ey t g.fs (nf::rf)).1 rt).1 (decide (rf=rt)) (lL ey t (il ey t g.fs (nf::rf)).1 rt).2.2 nt (il ey t g.fs (nf::rf)).2.2).2≠0 then((jM ey (lL ey t (il ey t g.fs (nf::rf)).1 rt).1 (decide (rf=rt)) (lL ey t (il ey t g.fs (nf::rf)).1 rt).2.2 nt (il ey t g.fs (nf::rf)).2.2).1,(jM ey (lL ey t (il ey t g.fs (nf::rf)).1 rt).1 (decide (rf=rt)) (lL ey t (il ey t g.fs (nf::rf)).1 rt).2.2 nt (il ey t g.fs (nf::rf)).2.2).2,t) else
   if 5<((rt.length+1:Nat):Int)+ig ey 5 (il ey t g.fs (nf::rf)).2.2 then((jM ey (lL ey t (il ey t g.fs (nf::rf)).1 rt).1 (decide (rf=rt)) (lL ey t (il ey t g.fs (nf::rf)).1 rt).2.2 nt (il ey t g.fs (nf::rf)).2.2).1,11,t) else
   ((jM ey (lL ey t (il ey t g.fs (nf::rf)).1 rt).1 (decide (rf=rt)) (lL ey t (il ey t g.fs (nf::rf)).1 rt).2.2 nt (il ey t g.fs (nf::rf)).2.2).1,0,rb ey (fun ks=>sf ks nt (il ey t g.fs (nf::rf)).2.2) rt.reverse (rb ey (fun ks=>np ks nf) rf.reverse t)):=rfl
 generalize xc ey t g.fs (nf::rf) (nt::rt)=M at d ⊢;have aW:∀{fs':FS} {c:LT},il ey t g.fs (nf::rf)=(fs',0,c)->_:=fun {_ _} h=>xA h
 generalize il ey t g.fs (nf::rf)=a at A f3 d aW;obtain⟨ab,er,c⟩:=a;simp only at A f3 d;generalize findF ey g.ft g.fs (nf::rf)=cK at A f3;obtain⟨_,_,j,dW,dX⟩:=cK;simp only[List.headD_cons,uR]at A f3;have k:Hid _:=d;have ac:∀W,(Op.equalIn 10000 147 (ju (rf.reverse++[nf])) (ju [])).run prog W=.ok false W:=fun W=>by
  have:=yr F Good.nil W
  rw[rk (by simp)]at this;exact this
 have ad:∀W,(Op.equalIn 10000 147 (ju (rt.reverse++[nt])) (ju [])).run prog W=.ok false W:=fun W=>by
  have:=yr z Good.nil W
  rw[rk (by simp)]at this;exact this
 have aA:∀W,(Op.equalIn 10000 147 (ju (rf.reverse++[nf])) (ju (rt.reverse++[nt]))).run prog W=.ok (decide (rf.reverse++[nf]=rt.reverse++[nt])) W:=fun W=>yr F z W;have ae:=fun W=>ut W;have aB:=fun W=>yC (rt.reverse++[nt]) (rf.reverse++[nf]) z F W;have af:=fun W=>gp (rt.reverse++[nt]) z W;rw[qY]at af;have aC:=fun W=>mL (rt.reverse++[nt]) z.val z.len W;obtain⟨s0,s1,s2,s3,s4,aD⟩:∃s0 s1 s2 s3 s4,fy (rf.reverse++[nf])=(kq s0 s1 s2 s3 s4):=⟨_,_,_,_,_,rfl⟩;obtain⟨d0,d1,d2,d3,d4,hQ⟩:∃s0 s1 s2 s3 s4,fy (rt.reverse++[nt])=(kq s0 s1 s2 s3 s4):=⟨_,_,_,_,_,rfl⟩;obtain⟨dY,dZ,ea,eb,ec,aX⟩:∃s0 s1 s2 s3 s4,fy rt.reverse=(kq s0 s1 s2 s3 s4):=⟨_,_,_,_,_,rfl⟩;unfold ju at ae ac ad aA aB af aC;simp only[aD,hQ,aX]at ac ad aA A aB af aC;rw[aD,hQ];unfold fy at ae ac ad;simp only[nN]at ae ac ad;have P:Hid _:=And.intro aD (And.intro hQ aX);have bG:Hid _:=h;have q:Hid _:=hF;have u:Hid _:=aU;have bH:Hid (Sound ey):=hS;have cL:Hid _:=A;have cM:Hid (∀{cN:FS} {cO:LT},(ab,er,c)=(cN,0,cO)->_):=aW;have cQ:Hid _:=f3;have G:Hid _:=And.intro F z;have bI:Hid _:=aA;have bJ:Hid _:=aB;have cS:Hid _:=af;have cT:Hid _:=aC;obtain⟨x,bK,bL,bM⟩:=Ex w s0 s1 s2 s3 s4 d0 d1 d2 d3 d4;have f:=lh ((w.alloc (.cells (kq s0 s1 s2 s3 s4) 147)).alloc (.cells (kq d0 d1 d2 d3 d4) 147)).drew.heap.size ((w.alloc (.cells (kq s0 s1 s2 s3 s4) 147)).alloc (.cells (kq d0 d1 d2 d3 d4) 147)).drew;have aE:Hid _:=And.intro bK (And.intro bL bM);clear h hF aU hS aD hQ aX A aW F z d f1 f2 f3 aA aB af aC bK bL bM;go_enter func72,ntmps72;go_wp2
 go_region_held3 (fun w'=>w'.cell? (eI w.heap.size 0)=some (.string s0)/\w'.cell? (eI w.heap.size 1)=some (.string s1)/\w'.cell? (eI w.heap.size 2)=some (.string s2)/\w'.cell? (eI w.heap.size 3)=some (.string s3)/\w'.cell? (eI w.heap.size 4)=some (.string s4)/\w'.cell? (eI (w.heap.size+1) 0)=some (.string d0)/\w'.cell? (eI (w.heap.size+1) 1)=some (.string d1)/\w'.cell? (eI (w.heap.size+1) 2)=some (.string d2)/\w'.cell? (eI (w.heap.size+1) 3)=some (.string d3)/\w'.cell? (eI (w.heap.size+1) 4)=some (.string d4)) (first|exact x|exact aY) (first|(go_at_call 75;refine(ae _).mono ?_;rintro e aF ⟨rfl,cU⟩;replace f:=fx f cU;have aY:=x.below f aE.out.1 aE.out.2.1))
 have bN:ik w aF:=fx aE.out.2.2 f;have aG:w.heap.size+1<aF.heap.size:=lO aE.out.2.1 f.size;have bO:w.heap.size<aF.heap.size:=Hg aG;have t0:tg w.heap.size=(0,0):=bG.out.st.fresh _ (kx _);have t1:tg (w.heap.size+1)=(0,0):=bG.out.st.fresh _ (gV _);have cV:Hid _:=aY;obtain⟨l,a1,a2,a3,m,c0,c1,c2,c3,c4⟩:=aY;clear x f ae ac ad;go_wp2_with fail;refine io (cL.out aF bN) ?_;rintro e w3 ⟨rfl,TD⟩;obtain⟨aH,ag,bQ⟩:=TD.out;have aZ:=oQ.nx hi ag;have bb:Hid _:=jH.kept cV.out aZ bO aG t0 t1;have ah:w.heap.size+1<w3.heap.size:=lO aG aZ.1;have bR:w.heap.size<w3.heap.size:=Hg ah;have bS:aH w.heap.size=(0,0):=(ag.tags _ bO).trans t0;have t13:aH (w.heap.size+1)=(0,0):=(ag.tags _ aG).trans t1;have bc:Hid _:=li bN ag;have aI:Hid _:=bQ;clear TD ag bQ aZ l a1 a2 a3 m c0 c1 c2 c3 c4;obtain⟨l,a1,a2,a3,m,c0,c1,c2,c3,c4⟩:=bb.out;by_cases her:er=0
 ·subst her
  obtain⟨⟨rfl,rfl,rfl⟩,ai⟩:=cQ.out rfl;obtain⟨y,C,bT,df,kf,bU,bV,bW⟩:=cM.out rfl;have Q:Hid _:=And.intro y (And.intro bT (And.intro bU (And.intro bV bW)));clear ai y C bT bU bV bW;obtain⟨kc,bd⟩:∃kc,kc=c.kind:=⟨_,rfl⟩;obtain⟨ic,be⟩:∃ic,ic=c.id:=⟨_,rfl⟩;rw[<-bd,<-be];have R:Hid _:=And.intro bd be;clear bd be;have aj:=bJ.out;clear bJ;by_cases mG:rf.reverse++[j] <+: rt.reverse++[nt]/\rt.reverse++[nt]≠rf.reverse++[j]
  ·rw[mz mG]at aj
   go_wp2_with(go_at_call 140;refine io (aj _) ?_;rintro e bf ⟨rfl,S⟩);go_ret;have d:=k.out;rw[fY (by simp),ie (by rw[qh,qh];exact⟨mG.1,fun e=>mG.2 (by rw[sG]at e;rw[e.1,e.2])⟩)]at d;subst d;have H:=fx ((lh w3.heap.size w3).alloc (kx _) _) S;exact⟨rfl,NE (bc.out.trans (eB.eE H)) ((aI.out.below H).mono (by simp;omega)) q.out u.out⟩
  ·rw[rk mG]at aj
   have bX:ik w3 (w3.alloc (.cells #[.string j,eJ kc,eJ ic] 96)):=(lh w3.heap.size w3).alloc (kx _) _;have bg:w3.heap.size<(w3.alloc (.cells #[.string j,eJ kc,eJ ic] 96)).heap.size:=by simp
   have cW:Hid _:=Rx w3 j kc ic;go_wp2_with(first
    |(go_at_call 140;refine io (aj _) ?_;rintro e bf ⟨rfl,S⟩;have H:=fx bX S;have cX:Hid _:=jH.below bb.out H bR ah;obtain⟨cY,cZ,da,db,dc,dd,de,dg,dh,di⟩:=cX.out;have ed:w.heap.size+1<bf.heap.size:=lO ah H.size;have ee:w3.heap.size<bf.heap.size:=lO bg S.size)
    |(go_at_call 132;refine io (cS.out _) ?_;rintro e w5 ⟨rfl,bh⟩;have ak:=fx H bh))
   have bi:=fx S bh;have dj:Hid _:=jH.below bb.out ak bR ah;have dk:Hid _:=tO.keep cW.out (fun o=>(ii bi).1 w3.heap.size o bg);have aJ:w.heap.size+1<w5.heap.size:=lO ah ak.size;have bY:w.heap.size<w5.heap.size:=Hg aJ;have bj:w3.heap.size<w5.heap.size:=lO bg bi.size;have t53:aH w3.heap.size=(0,0):=aI.out.st.fresh _ (kx _);have T:=qI (s:=s) (i:=i) (p:=p) (B:=B) (ey:=ey) rt aH w5 { g with fs:=ab } _ (aI.out.below ak) (by simp;omega) (by have:=G.out.2.dropLast;rwa [qY]at this);rw[kV bH.out q.out u.out ab rt]at T;rw[P.out.2.2]at T;have d:=k.out;rw[fY (by simp),fY (by rw[qh,qh];exact fun U=>mG ⟨U.1,fun e=>U.2 (by have al:=List.append_inj_left' e rfl;have bk:=List.append_inj_right' e rfl;rw[Ta]at al;rw[al,List.cons.inj bk|>.1])⟩)]at d;have aK:=nR (ey:=ey) (t:=t) (fs:=ab) (r:=rt);generalize lL ey t ab rt=dl at T d aK;obtain⟨bZ,ca,ks⟩:=dl;simp only at T d aK;clear k;have k:Hid _:=d;have dm:Hid _:=T;have dn:Hid _:=aK;have dp:Hid _:=bc.out.trans (eB.eE ak);clear d T aK l a1 a2 a3 m c0 c1 c2 c3 c4 cY cZ da db dc dd de dg dh di S bh bi H bX aj ak;refine io dm.out ?_;rintro e w6 ⟨v,rfl,aL,am,cb,bl⟩;have bm:=am.mono (fun _ h=>h.mine);have an:=oQ.nx hi bm;have cc:Hid _:=jH.kept dj.out an bY aJ bS t13;have cd:Hid _:=tO.keep dk.out (an.2 _ bj t53);have aM:w.heap.size+1<w6.heap.size:=lO aJ an.1;have ce:w.heap.size<w6.heap.size:=Hg aM;have bn:w3.heap.size<w6.heap.size:=lO bj an.1;have cf:aL w.heap.size=(0,0):=(am.tags _ bY).trans bS;have t16:aL (w.heap.size+1)=(0,0):=(am.tags _ aJ).trans t13;have cg:aL w3.heap.size=(0,0):=(am.tags _ bj).trans t53;have bo:Hid _:=dp.out.trans bm;have bp:Hid _:=cb;have dq:Hid (sA aL w6 i v (ks.map mn)):=bl;obtain⟨la,lc,rfl⟩:=bl.len;clear am bm an cb bl;obtain⟨l,a1,a2,a3,m,c0,c1,c2,c3,c4⟩:=cc.out;obtain⟨I,y,C⟩:=cd.out;by_cases bq:ca=0
   ·subst bq
    obtain⟨⟨dt,ai,br⟩,ch,ci⟩:=dn.out rfl;have h3:=bI.out;clear bI;by_cases heq:rf.reverse++[j]=rt.reverse++[nt]
    ·rw[mz heq]at h3
     go_wp2;go_ret;have d:=k.out;have al:=List.append_inj_left' heq rfl;have bk:=List.append_inj_right' heq rfl;rw[Ta]at al;rw[ie (.inr (by rw[al,(List.cons.inj bk).1]))]at d;subst d;exact⟨rfl,NE bo.out (bp.out.mono (by simp;omega)) q.out u.out⟩
    ·rw[rk heq]at h3
     have bs:=Vj (c:=c) bp.out (by simp;omega) q.out u.out G.out.1 G.out.2 ai br dq.out j;rw[P.out.1,P.out.2.1,<-R.out.1,<-R.out.2,nD]at bs;have d:=k.out;rw[fY (by simp;exact fun dr e2=>heq (by rw[dr,e2]))]at d;have aN:=Rw (ey:=ey) (fs:=bZ) (b:=decide (rf=rt)) (ks:=ks) (n:=nt) (c:=c);have ao:=bs;clear bs;simp only at ao;generalize jM ey bZ (decide (rf=rt)) ks nt c=V at ao d aN;obtain⟨ef,cj⟩:=V;simp only at ao d aN;clear k;have k:Hid _:=d;have ds:Hid _:=ao;have du:Hid _:=aN;have aO:Hid _:=And.intro ai (And.intro br (And.intro ch ci));clear d ao aN ai br ch ci;go_wp2_with fail;refine io ds.out ?_;rintro e D ⟨rfl,ck⟩;obtain⟨bt,X,cl⟩:=ck.out;have ap:=oQ.nx hi X;have J:Hid _:=jH.kept cc.out ap ce aM cf t16;have K:Hid _:=tO.keep cd.out (ap.2 _ bn cg);have L:w.heap.size+1<D.heap.size:=lO aM ap.1;have aq:w.heap.size<D.heap.size:=Hg L;have Y:w3.heap.size<D.heap.size:=lO bn ap.1;have ar:bt w.heap.size=(0,0):=(X.tags _ ce).trans cf;have t17:bt (w.heap.size+1)=(0,0):=(X.tags _ aM).trans t16;have dv:bt w3.heap.size=(0,0):=(X.tags _ bn).trans cg;have bu:Hid _:=bo.out.trans X;have au:Hid _:=cl;clear ck X cl ap l a1 a2 a3 m c0 c1 c2 c3 c4 I y C h3;by_cases bv:cj=0
     ·subst bv
      obtain⟨bw,cm,iE⟩:=du.out rfl;have bx:=(py bH.out _ u.out Q.out.1).2.1;have cn:=uD au.out.st.fI 5 c;have cp:=vS (5-(rf.reverse++[j]).length) 5 c (Nat.sub_le _ _) bx;have cq:(rf.reverse++[j]).length+(5-(rf.reverse++[j]).length)<=5:=by have:=G.out.1.len;omega
      have aP:=MD au.out q.out (5-(rf.reverse++[j]).length) c (rf.reverse++[j]) (Nat.sub_le _ _) bx Q.out.1 G.out.1 cq j;rw[<-cp,P.out.1,<-R.out.1,<-R.out.2]at aP;have Ws:=cT.out;have cr:((rt.reverse++[nt]).length:Int)=((rt.length+1:Nat):Int):=by simp
      rw[cr]at Ws;have d:=k.out;rw[fY (by simp)]at d;clear k;have Z:=fun W (aV:ik D W) (U:((rt.length+1:Nat):Int)+ig ey 5 c<=5)=>Gm (au.out.below aV) (by simp;omega) q.out u.out G.out.1 G.out.2 Q.out.2.2.1 Q.out.2.2.2.1 Q.out.2.2.2.2 aO.out.1 aO.out.2.1 ((Q.out.2.1.mono aO.out.2.2.1.2.2.2.2).mono bw.2.2.2.2) (aO.out.2.2.2.mono bw.2.2.2.2) (fun hp=>by
       by_cases e:rt.reverse++[nt]=rf.reverse++[j]
       ·exact heq e.symm
       ·exact mG ⟨hp,e⟩) cm (fun hn=>(iE hn).imp id (fun e=>by rw[wm e])) (by rw[CN];exact U) j
      rw[P.out.1,P.out.2.1,<-R.out.1,<-R.out.2]at Z;have av:Hid _:=And.intro d Z;clear d Z cm iE bw bx cp cq cr;generalize ig ey 5 c=bz at aP cn av;generalize ct:((rt.length+1:Nat):Int)=aw at Ws av;have dw:1<=aw/\aw<=5:=by omega
      have eg:Hid _:=ct;clear ct;obtain⟨eh,ei⟩:=cn;obtain⟨ej,ek⟩:=dw;have el:IntKind.i64.wrap (aw+bz)=aw+bz:=by rw[xS]<;>omega
      have bA:Hid _:=aP;have bB:Hid _:=Ws;clear aP Ws;have x:jH D.drew w.heap.size (w.heap.size+1) s0 s1 s2 s3 s4 d0 d1 d2 d3 d4:=J.out;have bC:tO D.drew w3.heap.size j kc ic:=K.out;have f:ik D D.drew:=gS (lh _ _);obtain⟨l,a1,a2,a3,m,c0,c1,c2,c3,c4⟩:=J.out;obtain⟨I,y,C⟩:=K.out;by_cases U:5<aw+bz
      ·go_wp2
       go_region_held3 (fun w'=>w'.cell? (eI w.heap.size 0)=some (.string s0)/\w'.cell? (eI w.heap.size 1)=some (.string s1)/\w'.cell? (eI w.heap.size 2)=some (.string s2)/\w'.cell? (eI w.heap.size 3)=some (.string s3)/\w'.cell? (eI w.heap.size 4)=some (.string s4)/\w'.cell? (eI (w.heap.size+1) 0)=some (.string d0)/\w'.cell? (eI (w.heap.size+1) 1)=some (.string d1)/\w'.cell? (eI (w.heap.size+1) 2)=some (.string d2)/\w'.cell? (eI (w.heap.size+1) 3)=some (.string d3)/\w'.cell? (eI (w.heap.size+1) 4)=some (.string d4)/\w'.cell? (eI w3.heap.size 0)=some (.string j)/\w'.cell? (eI w3.heap.size 1)=some (eJ kc)/\w'.cell? (eI w3.heap.size 2)=some (eJ ic)) (first|exact x.and bC|exact aQ|exact aR) (first
        |(go_at_call 142;refine(bB.out _).mono ?_;rintro e dx ⟨rfl,aS⟩;replace f:=fx f aS;have aQ:=(jH.below J.out f aq L).and (tO.keep K.out (fun o=>(ii f).1 w3.heap.size o Y)))
        |(go_at_call 143;refine(bA.out _ f).mono ?_;rintro e ax ⟨rfl,aT⟩;replace f:=fx f aT;have aR:=(jH.below J.out f aq L).and (tO.keep K.out (fun o=>(ii f).1 w3.heap.size o Y))))
       go_wp2;go_ret;have d:=av.out.1;rw[ie U]at d;subst d;exact⟨rfl,NE (bu.out.trans (eB.eE f)) ((au.out.below f).mono (by simp;omega)) q.out u.out⟩
      ·go_wp2
       go_region_held3 (fun w'=>w'.cell? (eI w.heap.size 0)=some (.string s0)/\w'.cell? (eI w.heap.size 1)=some (.string s1)/\w'.cell? (eI w.heap.size 2)=some (.string s2)/\w'.cell? (eI w.heap.size 3)=some (.string s3)/\w'.cell? (eI w.heap.size 4)=some (.string s4)/\w'.cell? (eI (w.heap.size+1) 0)=some (.string d0)/\w'.cell? (eI (w.heap.size+1) 1)=some (.string d1)/\w'.cell? (eI (w.heap.size+1) 2)=some (.string d2)/\w'.cell? (eI (w.heap.size+1) 3)=some (.string d3)/\w'.cell? (eI (w.heap.size+1) 4)=some (.string d4)/\w'.cell? (eI w3.heap.size 0)=some (.string j)/\w'.cell? (eI w3.heap.size 1)=some (eJ kc)/\w'.cell? (eI w3.heap.size 2)=some (eJ ic)) (first|exact x.and bC|exact aQ|exact aR) (first
        |(go_at_call 142;refine(bB.out _).mono ?_;rintro e dx ⟨rfl,aS⟩;replace f:=fx f aS;have aQ:=(jH.below J.out f aq L).and (tO.keep K.out (fun o=>(ii f).1 w3.heap.size o Y)))
        |(go_at_call 143;refine(bA.out _ f).mono ?_;rintro e ax ⟨rfl,aT⟩;replace f:=fx f aT;have aR:=(jH.below J.out f aq L).and (tO.keep K.out (fun o=>(ii f).1 w3.heap.size o Y))))
       obtain⟨d,Z⟩:=av.out;rw[fY (by omega)]at d;have k:Hid _:=d;have cu:=Z ax f (by omega);have cv:Hid _:=cu;have aa:Hid _:=jH.below J.out f aq L;have cw:Hid _:=tO.keep K.out (fun o=>(ii f).1 w3.heap.size o Y);have dy:Hid _:=bu.out.trans (eB.eE f);have E:w.heap.size+1<ax.heap.size:=lO L f.size;have ay:w.heap.size<ax.heap.size:=Hg E;have cx:w3.heap.size<ax.heap.size:=lO Y f.size;clear d Z cu av f aQ aR x bC l a1 a2 a3 m c0 c1 c2 c3 c4 I y C aS aT bA bB;obtain⟨l,a1,a2,a3,m,c0,c1,c2,c3,c4⟩:=aa.out;obtain⟨I,y,C⟩:=cw.out;go_wp2_with fail;refine io cv.out ?_;rintro e cy ⟨rfl,az,cz⟩;have dz:Hid _:=jH.kept aa.out az ay E ar t17;have dA:Hid _:=tO.keep cw.out (az.2 _ cx dv);have cA:Hid _:=cz;have em:w.heap.size+1<cy.heap.size:=lO E az.1;have en:w3.heap.size<cy.heap.size:=lO cx az.1;clear l a1 a2 a3 m c0 c1 c2 c3 c4 I y C cz az cv;obtain⟨l,a1,a2,a3,m,c0,c1,c2,c3,c4⟩:=dz.out;obtain⟨I,y,C⟩:=dA.out;go_wp2_with fail;refine io cA.out ?_;rintro e N ⟨rfl,bD,cB⟩;have cC:Hid (jH N w.heap.size (w.heap.size+1) s0 s1 s2 s3 s4 d0 d1 d2 d3 d4):=jH.kept aa.out bD ay E ar t17;obtain⟨dB,⟨cD,t7,_⟩,cE⟩:=cB N.drew (gS (lh _ _));have dC:Hid _:=cE;have x:jH N.drew w.heap.size (w.heap.size+1) s0 s1 s2 s3 s4 d0 d1 d2 d3 d4:=cC.out;have cF:N.drew.cell? (eI B.bt 7)=some (.map (some B.oF)):=t7;clear l a1 a2 a3 m c0 c1 c2 c3 c4 I y C cB cE dB cA;obtain⟨l,a1,a2,a3,m,c0,c1,c2,c3,c4⟩:=cC.out;have dD:N.cell? (eI B.bt 7)=some (.map (some B.oF)):=t7;have dE:B.bt<N.heap.size:=cD;have eo:w.heap.size+1<N.heap.size:=lO E bD.1;clear bD;go_wp2
       go_region_held3 (fun w'=>w'.cell? (eI w.heap.size 0)=some (.string s0)/\w'.cell? (eI w.heap.size 1)=some (.string s1)/\w'.cell? (eI w.heap.size 2)=some (.string s2)/\w'.cell? (eI w.heap.size 3)=some (.string s3)/\w'.cell? (eI w.heap.size 4)=some (.string s4)/\w'.cell? (eI (w.heap.size+1) 0)=some (.string d0)/\w'.cell? (eI (w.heap.size+1) 1)=some (.string d1)/\w'.cell? (eI (w.heap.size+1) 2)=some (.string d2)/\w'.cell? (eI (w.heap.size+1) 3)=some (.string d3)/\w'.cell? (eI (w.heap.size+1) 4)=some (.string d4)/\w'.cell? (eI B.bt 7)=some (.map (some B.oF))) (first|exact x.and cF|exact cG) (first
        |(go_at_call 144;refine io dC.out ?_;rintro e O ⟨rfl,bE⟩;obtain⟨dF,⟨ep,dG,_⟩,_⟩:=bE O (lh _ _);have cG:=(jH.kept aa.out dF ay E ar t17).and dG;have dH:Hid _:=bE;clear bE))
       obtain⟨cH,⟨dI,_,t8⟩,cI⟩:=dH.out O.drew (gS (lh _ _));have dJ:Hid _:=cI;have cJ:jH O.drew w.heap.size (w.heap.size+1) s0 s1 s2 s3 s4 d0 d1 d2 d3 d4:=jH.kept aa.out cH ay E ar t17;have dK:Hid (jH O w.heap.size (w.heap.size+1) s0 s1 s2 s3 s4 d0 d1 d2 d3 d4):=cJ;have dL:O.drew.cell? (eI B.bt 8)=some (.map (some B.oD)):=t8;have eq:O.cell? (eI B.bt 8)=some (.map (some B.oD)):=t8;have es:B.bt<O.heap.size:=dI;clear l a1 a2 a3 m c0 c1 c2 c3 c4 t7 dD dE cD x cF cG cI cH;obtain⟨l,a1,a2,a3,m,c0,c1,c2,c3,c4⟩:=dK.out;go_wp2
       go_region_held3 (fun w'=>w'.cell? (eI w.heap.size 0)=some (.string s0)/\w'.cell? (eI w.heap.size 1)=some (.string s1)/\w'.cell? (eI w.heap.size 2)=some (.string s2)/\w'.cell? (eI w.heap.size 3)=some (.string s3)/\w'.cell? (eI w.heap.size 4)=some (.string s4)/\w'.cell? (eI (w.heap.size+1) 0)=some (.string d0)/\w'.cell? (eI (w.heap.size+1) 1)=some (.string d1)/\w'.cell? (eI (w.heap.size+1) 2)=some (.string d2)/\w'.cell? (eI (w.heap.size+1) 3)=some (.string d3)/\w'.cell? (eI (w.heap.size+1) 4)=some (.string d4)/\w'.cell? (eI B.bt 8)=some (.map (some B.oD))) (first|exact cJ.and dL|exact dM) (first
        |(go_at_call 145;refine io dJ.out ?_;rintro e et ⟨rfl,bF⟩;have dM:=Jz aa.out ay E ar t17 hi bF;have dN:Hid _:=bF;clear bF))
       go_wp2;go_ret;have d:=k.out;subst d;refine⟨rfl,?_⟩;obtain⟨dO,dP,dQ,dR,dS,dT⟩:=dN.out;exact⟨dO,dP,dy.out.trans dQ,dR.mono (by simp;omega),dS,dT⟩
     ·have eu:(cj==0)=false:=by simpa using bv
      go_wp2;go_ret;have d:=k.out;rw[ie bv]at d;subst d;exact⟨rfl,NE bu.out (au.out.mono (by simp;omega)) q.out u.out⟩
   ·have ev:(ca==0)=false:=by simpa using bq
    go_wp2;go_ret;have d:=k.out;rw[ie (.inl bq)]at d;subst d;exact⟨rfl,NE bo.out (bp.out.mono (by simp;omega)) q.out u.out⟩
 ·have ew:(er==0)=false:=by simpa using her
  go_wp2;go_ret;have d:=k.out;rw[ie her]at d;subst d;exact⟨rfl,NE (bc.out.trans (eB.eE ((lh w3.heap.size w3).alloc (kx _) _))) ((aI.out.below ((lh w3.heap.size w3).alloc (kx _) _)).mono (by simp;omega)) q.out u.out⟩
end
def rp {a:Type}(f:Nat->a)(k:Nat)(v:a):Nat->a:=fun x=>if x=k then v else f x
theorem kw{a:Type}(f:Nat->a)(k:Nat)(v:a):rp f k v k=v:=by unfold rp;rw[ie rfl]
theorem kv{a:Type}{f:Nat->a}{k x:Nat}(h:x≠k)(v:a):rp f k v x=f x:=by unfold rp;rw[fY h]
def tP (ey:List Ob)(fl:Nat->Option (Int×eD)):Prop:=∀f id d,fl f=some (id,d)->id≠0->eM ey id=1
theorem Ry(W:World):(convert 204 9 (.slice none 0 0)).run prog W=.ok (.string hZ) W:=by kernel_rfl
section
variable {s i p:Nat}{B:WB}{ey:List Ob}
theorem oq(h:eT tg w s i p B ey g lim)(hl:lim<1099511627776)(k:tP ey g.fl)(hf:g.fl f=some x):
  gc 181 #[hh f] w fun e w'=>e=.returned (.tuple #[.string (ub ey g.fl g.fs f).2.2,eJ (ub ey g.fl g.fs f).2.1])/\jR s i p B ey tg w w' { g with fs:=(ub ey g.fl g.fs f).1 } (lim+1):=by
 obtain⟨id,d⟩:=x;obtain⟨ht,a,hd⟩:=h.wp.files f id d hf;have b:ub ey g.fl g.fs f=if id=0 then(g.fs,0,d)else if(g.fs.fM id).2 then((g.fs.fM id).1,0,bytesOf ey id) else((g.fs.fM id).1,14,hZ):=by
  unfold ub;rw[hf]
 have l:=(nX.1 a).1;have c1:w.cell? (eI f 1)=some (eJ id):=by simp[World.cell?,a]
 by_cases hid:id=0
 ·rw[b,ie hid]
  subst hid;have c2:w.cell? (eI f 2)=some (.string d):=by simp[World.cell?,a]
  exact(QI f d w c1 c2).mono fun e w' ⟨h1,h2⟩=>⟨h1,by rw[h2];exact oo (h.mono (gV _)) (lh _ _)⟩
 ·rw[b,fY hid]
  have c0:w.cell? (eI f 0)=some (hh B.sF):=by simp[World.cell?,a,hid]
  have c:ik w w.drew:=gS (lh _ _);have m:=UC (h.below c) hl (k f id d hf hid);refine(QJ f B.sF id (if(g.fs.fM id).2 then 0 else 14) (if(g.fs.fM id).2 then bytesOf ey id else hZ) (fun w'=>jR s i p B ey tg w w' { g with fs:=(g.fs.fM id).1 } (lim+1)) w l c0 c1 hid (m.mono fun e w' ⟨h1,h2⟩=>⟨h1,jR.via c h2⟩)).mono fun e w' ⟨h1,h2⟩=>?_;cases j:(g.fs.fM id).2 with
  |true=>rw[j]at h1;exact⟨h1,h2⟩
  |false=>rw[j]at h1;exact⟨h1,h2⟩
theorem Dn{x y z:Value}{t:gi}(h:w.heap[f]?=some (.cells #[x,y,z] t (0,0)))(d:eD):(ku w f d).heap[f]?=some (.cells #[.pointer none,eJ 0,.string d] t (0,0)):=by
 unfold ku;have h1:=Tf w f 0 _ t (.pointer none) h;have h2:=Tf _ f 1 _ t (eJ 0) h1;have h3:=Tf _ f 2 _ t (.string d) h2;simpa using h3
theorem vk(w:World)(f:Nat)(d:eD):w.grownBy (ku w f d) (some f):=by
 unfold ku;exact ol (ol (ol (ui w _)))
theorem Gn(w:World)(f:Nat)(d:eD):(ku w f d).heap.size=w.heap.size:=by unfold ku;simp
theorem eT.Ca(h:eT tg w s i p B ey g lim)(hf:g.fl f=some x){d:eD}(hd:d.size<=256):
  eB (fun t=>t=(i,6)) tg tg w (ku w f d)/\eT tg (ku w f d) s i p B ey { g with fl:=rp g.fl f (some (0,d)) } lim:=by
 have hi:=h.two;obtain⟨id,d0⟩:=x;obtain⟨ht,n,_⟩:=h.wp.files f id d0 hf;have m:eB (fun t=>t=(i,6)) tg tg w (ku w f d):=yi (vk w f d) (Gn w f d) ht;have hp:=h.wp;have hsome:∀f',(∃x,g.fl f'=some x)->∃x,rp g.fl f (some (0,d)) f'=some x:=fun f' ⟨x,hx⟩=>by
  by_cases e:f'=f
  ·subst e;exact⟨_,kw _ _ _⟩
  ·exact⟨x,by rw[kv e];exact hx⟩
 refine⟨m,h.two,h.st.moves m (fun e=>by cases e) (fun e=>by cases e),⟨hp.tree.moves m (fun e=>by cases e),hp.lS.moves m (fun e=>by cases e),hp.lT.moves m (fun e=>by cases e),hp.qG.moves m (fun e=>by cases e),?_,fun f' c j l=>?_,fun q f' hq=>hsome f' (hp.held q f' hq),?_,hp.ok⟩⟩
 ·obtain⟨vD,hD⟩:=hp.nI
  exact⟨vD,hD.moves m (fun e=>by cases e)⟩
 ·by_cases e:f'=f
  ·subst e
   have a:rp g.fl f' (some (0,d)) f'=some (c,j):=l;rw[kw]at a;cases a;refine⟨ht,?_,hd⟩;rw[ie rfl];exact Dn n d
  ·have a:rp g.fl f (some (0,d)) f'=some (c,j):=l
   rw[kv e]at a;obtain⟨a1,a2,a3⟩:=hp.files f' c j a;refine⟨a1,?_,a3⟩;rw[(vk w f d).block f' (nX.1 a2).1 (fun o=>e (by cases o;rfl))];exact a2
 ·have ho:=hp.opens.moves m (fun e=>by cases e) (fun e=>by cases e)
  exact⟨ho.tw,ho.hw,ho.past,fun k b f' fg pl hk=>by
   obtain⟨a1,a2,a3,r⟩:=ho.at_ k b f' fg pl hk;exact⟨a1,a2,hsome f' a3,r⟩,ho.inj⟩
theorem yE(h:eT tg w s i p B ey g lim)(hf:g.fl f=some x):
  gc 179 #[hh f] w fun e w'=>e=.returned (.tuple #[])/\eB (fun t=>t=(i,6)) tg tg w w'/\eT tg w' s i p B ey { g with fl:=rp g.fl f (some (0,hZ)) } lim:=by
 obtain⟨id,d0⟩:=x;obtain⟨ht,a,_⟩:=h.wp.files f id d0 hf;refine(LX f _ _ _ w (nX.1 a).1 (by simp[World.cell?,a];rfl) (by simp[World.cell?,a];rfl) (by simp[World.cell?,a];rfl) (fun o=>by simp[World.frozen?,a]) (Ry w)).mono fun e w' ⟨h1,h2⟩=>⟨h1,?_⟩;rw[h2];exact h.Ca hf (by simp[ByteArray.size])
theorem Ey{P:Nat×Nat->Prop}(o:Obj)(t:Nat×Nat):eB P tg (jN tg w.heap.size t) w (w.alloc o):=by
 have a:ik w (w.alloc o):=(lh _ _).alloc (kx _) _;refine⟨a.os,a.tape,a.output,a.size,fun k hk=>lp (by omega) _,fun k hk _=>a.block k hk,fun hf k hk=>?_⟩;rw[sr]at hk;rw[lp (by omega)];exact hf k (by omega)
theorem eT.JB(h:eT tg w s i p B ey g lim)(id:Int):
  eB (fun _=>False) tg (jN tg w.heap.size (i,6)) w (w.alloc (.cells #[.pointer (if id=0 then none else some (eI B.sF 0)),eJ id,.string hZ] 308))/\
  eT (jN tg w.heap.size (i,6)) (w.alloc (.cells #[.pointer (if id=0 then none else some (eI B.sF 0)),eJ id,.string hZ] 308)) s i p B ey { g with fl:=rp g.fl w.heap.size (some (id,hZ)) } lim:=by
 have m:eB (fun _=>False) tg (jN tg w.heap.size (i,6)) w (w.alloc (.cells #[.pointer (if id=0 then none else some (eI B.sF 0)),eJ id,.string hZ] 308)):=Ey _ _;have hp:=h.wp;have hW:=hp.moves m (fun _ x=>x);have hsome:∀f',(∃x,g.fl f'=some x)->∃x,rp g.fl w.heap.size (some (id,hZ)) f'=some x:=fun f' ⟨x,hx⟩=>by
  by_cases e:f'=w.heap.size
  ·subst e;exact⟨_,kw _ _ _⟩
  ·exact⟨x,by rw[kv e];exact hx⟩
 refine⟨m,h.two,h.st.moves m (fun x=>x) (fun x=>x),⟨hW.tree,hW.lS,hW.lT,hW.qG,hW.nI,fun f' c d f=>?_,fun q f' hq=>hsome f' (hp.held q f' hq),⟨hW.opens.tw,hW.opens.hw,hW.opens.past,fun k b f' fg pl hk=>?_,hW.opens.inj⟩,hW.ok⟩⟩
 ·by_cases e:f'=w.heap.size
  ·subst e
   have a:rp g.fl w.heap.size (some (id,hZ)) w.heap.size=some (c,d):=f;rw[kw]at a;cases a;exact⟨rG _ _ _,su w _,by simp[ByteArray.size]⟩
  ·have a:rp g.fl w.heap.size (some (id,hZ)) f'=some (c,d):=f
   rw[kv e]at a;exact hW.files f' c d a
 ·obtain⟨a1,a2,a3,j⟩:=hW.opens.at_ k b f' fg pl hk
  exact⟨a1,a2,hsome f' a3,j⟩
theorem eT.Ez(h:eT tg w s i p B ey g lim)(hl:lim<maxLen)(hq:Good q)(hf:g.fl f=some x):
  ∃w',(Instr.mapUpdate 161 (.map (some B.oF)) (.agg (fy q)) (hh f)).run prog w=.ok () w'/\eB (fun t=>t=(i,4)) tg tg w w'/\eT tg w' s i p B ey { g with ft:={ g.ft with of:=upd g.ft.of q (some f) } } (lim+1):=by
 have hi:=h.two;obtain⟨ht,⟨n,hn,hm⟩,hg⟩:=h.wp.qG;obtain⟨w',a,b,c,hs⟩:=hm.store hq (by omega) underlying161 (hh f);have m:eB (fun t=>t=(i,4)) tg tg w w':=yi c hs ht;have hp:=(h.mono (gV lim)).wp;obtain⟨vD,hD⟩:=hp.nI;refine⟨w',a,m,h.two,(h.st.mono (gV lim)).moves m (fun e=>by cases e) (fun e=>by cases e),⟨hp.tree.moves m (fun e=>by cases e),hp.lS.moves m (fun e=>by cases e),hp.lT.moves m (fun e=>by cases e),⟨ht,⟨n+1,by omega,b.congr (fun x hx=>?_)⟩,fun x f hx=>?_⟩,⟨vD,hD.moves m (fun e=>by cases e)⟩,hp.files.moves m (fun e=>by cases e),fun x f' hx=>?_,hp.opens.moves m (fun e=>by cases e) (fun e=>by cases e),⟨hp.ok.root,hp.ok.od⟩⟩⟩
 ·show upd (fun y=>(g.ft.of y).map ptr) q (some _) x=Option.map ptr (upd g.ft.of q (some f) x)
  by_cases e:x=q
  ·subst e;rw[upd_same,upd_same];rfl
  ·rw[hE e,hE e]
 ·by_cases e:x=q
  ·rw[e];exact hq
  ·have nv:upd g.ft.of q _ x=some f:=hx
   rw[hE e]at nv;exact hg x f nv
 ·by_cases e:x=q
  ·subst e
   have nv:upd g.ft.of x (some f) x=some f':=hx;rw[upd_same]at nv;cases nv;exact⟨_,hf⟩
  ·have nv:upd g.ft.of q _ x=some f':=hx
   rw[hE e]at nv;exact hp.held x f' nv
theorem zA(h:k<8):k=0\/k=1\/k=2\/k=3\/k=4\/k=5\/k=6\/k=7:=by omega
theorem uz.tab{fl:Nat->Option (Int×eD)}(h:uz tg w i B fl op):lg w B.wb (fun k=>(op k).map (·.1))/\w.cell? (eI B.wb 0)=some (ptr B.bt):=by
 have hw:=h.hw;refine⟨⟨(nX.1 hw).1,fun k hk=>?_,fun o=>by simp[World.frozen?,hw]⟩,by simp[World.cell?,hw]⟩;rcases zA hk with rfl|rfl|rfl|rfl|rfl|rfl|rfl|rfl<;>simp[World.cell?,hw,xq,Function.comp_def]
theorem OD{a:Nat}{x:Value}{t:gi}(h:w.heap[a]?=some (.cells #[x,xq (op 0),xq (op 1),xq (op 2),xq (op 3),xq (op 4),xq (op 5),xq (op 6),xq (op 7)] t (0,0)))(hk:k<8)(v:Option (Nat×Nat×Int×Int)):
  (w.setCell (eI a (1+k)) (xq v)).heap[a]?=some (.cells #[x,xq (rp op k v 0),xq (rp op k v 1),xq (rp op k v 2),xq (rp op k v 3),xq (rp op k v 4),xq (rp op k v 5),xq (rp op k v 6),xq (rp op k v 7)] t (0,0)):=by
 rw[Tf w a (1+k) _ t (xq v) h];rcases zA hk with rfl|rfl|rfl|rfl|rfl|rfl|rfl|rfl<;>simp[rp]
theorem eT.close(h:eT tg w s i p B ey g lim)(hk:k<8):
  eB (fun t=>t=(i,0)) tg tg w (w.setCell (eI B.wb (1+k)) (.pointer none))/\eT tg (w.setCell (eI B.wb (1+k)) (.pointer none)) s i p B ey { g with op:=rp g.op k none } lim:=by
 have hi:=h.two;have hp:=h.wp;have c:w.grownBy (w.setCell (eI B.wb (1+k)) (.pointer none)) (some B.wb):=ol (ui w _);have m:eB (fun t=>t=(i,0)) tg tg w (w.setCell (eI B.wb (1+k)) (.pointer none)):=yi c (by simp) hp.opens.tw;have a:∀j x,rp g.op k none j=some x->j≠k/\g.op j=some x:=fun j x hj=>by
  by_cases e:j=k
  ·subst e;rw[kw]at hj;cases hj
  ·rw[kv e]at hj;exact⟨e,hj⟩
 obtain⟨vD,hD⟩:=hp.nI;refine⟨m,h.two,h.st.moves m (fun e=>by cases e;omega) (fun e=>by cases e),⟨hp.tree.moves m (fun e=>by cases e),hp.lS.moves m (fun e=>by cases e),hp.lT.moves m (fun e=>by cases e),hp.qG.moves m (fun e=>by cases e),⟨vD,hD.moves m (fun e=>by cases e)⟩,hp.files.moves m (fun e=>by cases e),hp.held,⟨hp.opens.tw,OD hp.opens.hw hk none,fun j hj=>?_,fun j b f fg pl hj=>?_,fun j l x y hj hl e=>hp.opens.inj j l x y (a j x hj).2 (a l y hl).2 e⟩,hp.ok⟩⟩
 ·show rp g.op k none j=none
  rw[kv (by omega)];exact hp.opens.past j hj
 ·obtain⟨e,h1⟩:=a j _ hj
  obtain⟨a1,a2,a3⟩:=hp.opens.at_ j b f fg pl h1;obtain⟨d,n⟩:=m.at a2 a1 (fun e=>by cases e);exact⟨n,d,a3⟩
theorem eT.place(h:eT tg w s i p B ey g lim){fg pl KH:Int}(hk:g.op k=some (b,f,fg,pl))(h0:0<=KH)(h1:KH<=256):
  eB (fun t=>t=(i,7)) tg tg w (w.setCell (eI b 2) (eJ KH))/\eT tg (w.setCell (eI b 2) (eJ KH)) s i p B ey { g with op:=rp g.op k (some (b,f,fg,KH)) } lim:=by
 have hi:=h.two;have hp:=h.wp;obtain⟨ht,u,v,z,A,_⟩:=hp.opens.at_ k b f fg pl hk;have r:w.grownBy (w.setCell (eI b 2) (eJ KH)) (some b):=ol (ui w _);have m:eB (fun t=>t=(i,7)) tg tg w (w.setCell (eI b 2) (eJ KH)):=yi r (by simp) ht;obtain⟨vD,hD⟩:=hp.nI;have C:∀j,xq (rp g.op k (some (b,f,fg,KH)) j)=xq (g.op j):=fun j=>by
  by_cases e:j=k
  ·subst e;rw[kw,hk];rfl
  ·rw[kv e]
 have hw:=(m.at hp.opens.hw hp.opens.tw (fun e=>by cases e)).1;refine⟨m,h.two,h.st.moves m (fun e=>by cases e) (fun e=>by cases e),⟨hp.tree.moves m (fun e=>by cases e),hp.lS.moves m (fun e=>by cases e),hp.lT.moves m (fun e=>by cases e),hp.qG.moves m (fun e=>by cases e),⟨vD,hD.moves m (fun e=>by cases e)⟩,hp.files.moves m (fun e=>by cases e),hp.held,⟨hp.opens.tw,?_,fun j hj=>?_,fun j c f' n o hj=>?_,fun j l x y hj hl e=>?_⟩,hp.ok⟩⟩
 ·simp only[C];exact hw
 ·show rp g.op k _ j=none
  have hne:j≠k:=fun e=>by rw[<-e,hp.opens.past j hj]at hk;cases hk
  rw[kv hne];exact hp.opens.past j hj
 ·by_cases e:j=k
  ·subst e
   have a:rp g.op j (some (b,f,fg,KH)) j=some (c,f',n,o):=hj;rw[kw]at a;cases a;refine⟨ht,?_,v,z,A,h0,h1⟩
   have:=Tf w b 2 _ 277 (eJ KH) u
   simpa using this
  ·have a:rp g.op k _ j=some (c,f',n,o):=hj
   rw[kv e]at a;obtain⟨a1,a2,a3⟩:=hp.opens.at_ j c f' n o a;refine⟨a1,?_,a3⟩;have hne:c≠b:=fun q=>e (hp.opens.inj j k _ _ a hk q)
   rw[r.block c (nX.1 a2).1 (fun q=>hne (by cases q;rfl))];exact a2
 ·have key:∀j x,rp g.op k (some (b,f,fg,KH)) j=some x->∃d,g.op j=some d/\d.1=x.1:=fun j x hj=>by
   by_cases e:j=k
   ·subst e;rw[kw]at hj;cases hj;exact⟨_,hk,rfl⟩
   ·rw[kv e]at hj;exact⟨x,hj,rfl⟩
  obtain⟨d,a1,a2⟩:=key j x hj;obtain⟨D,E,F⟩:=key l y hl;exact hp.opens.inj j l d D a1 E (by rw[a2,F,e])
theorem eT.XV(h:eT tg w s i p B ey g lim)(hk:k<8)(hf:g.fl f=some x)(h0:0<=fg)(h1:fg<64):
  eB (fun t=>t=(i,0)) tg (jN tg w.heap.size (i,7)) w ((w.setCell (eI B.wb (1+k)) (hh w.heap.size)).alloc (.cells #[hh f,eJ fg,eJ 0] 277))/\
  eT (jN tg w.heap.size (i,7)) ((w.setCell (eI B.wb (1+k)) (hh w.heap.size)).alloc (.cells #[hh f,eJ fg,eJ 0] 277)) s i p B ey { g with op:=rp g.op k (some (w.heap.size,f,fg,0)) } lim:=by
 have hi:=h.two;have hp:=h.wp;have v:w.grownBy (w.setCell (eI B.wb (1+k)) (hh w.heap.size)) (some B.wb):=ol (ui w _);have n:(w.setCell (eI B.wb (1+k)) (hh w.heap.size)).heap.size=w.heap.size:=by simp
 have z:eB (fun t=>t=(i,0)) tg tg w (w.setCell (eI B.wb (1+k)) (hh w.heap.size)):=yi v n hp.opens.tw;have A:eB (fun t=>t=(i,0)) tg (jN tg w.heap.size (i,7)) (w.setCell (eI B.wb (1+k)) (hh w.heap.size)) ((w.setCell (eI B.wb (1+k)) (hh w.heap.size)).alloc (.cells #[hh f,eJ fg,eJ 0] 277)):=by
  have:=Ey (P:=fun t=>t=(i,0)) (tg:=tg) (w:=w.setCell (eI B.wb (1+k)) (hh w.heap.size)) (.cells #[hh f,eJ fg,eJ 0] 277) (i,7)
  rwa [n]at this
 have m:=z.trans A;have C:((w.setCell (eI B.wb (1+k)) (hh w.heap.size)).alloc (.cells #[hh f,eJ fg,eJ 0] 277)).heap[w.heap.size]?=some (.cells #[hh f,eJ fg,eJ 0] 277 (0,0)):=by
  have:=su (w.setCell (eI B.wb (1+k)) (hh w.heap.size)) (.cells #[hh f,eJ fg,eJ 0] 277)
  rwa [n]at this
 have r:=(nX.1 hp.opens.hw).1;obtain⟨vD,hD⟩:=hp.nI;have u:∀j x,g.op j=some x->x.1<w.heap.size:=fun j x hj=>by
  obtain⟨a,f',b,KH⟩:=x;exact(nX.1 (hp.opens.at_ j a f' b KH hj).2.1).1
 refine⟨m,h.two,h.st.moves m (fun e=>by cases e;omega) (fun e=>by cases e),⟨hp.tree.moves m (fun e=>by cases e),hp.lS.moves m (fun e=>by cases e),hp.lT.moves m (fun e=>by cases e),hp.qG.moves m (fun e=>by cases e),⟨vD,hD.moves m (fun e=>by cases e)⟩,hp.files.moves m (fun e=>by cases e),hp.held,⟨?_,?_,fun j hj=>?_,fun j a f' b q hj=>?_,fun j l x y hj hl e=>?_⟩,hp.ok⟩⟩
 ·exact(m.tags _ r).trans hp.opens.tw
 ·have D:=OD hp.opens.hw hk (some (w.heap.size,f,fg,0))
  rw[<-D];exact((lh _ _).alloc (kx _) _:Below (w.setCell (eI B.wb (1+k)) (hh w.heap.size)).heap.size _ _).block B.wb (by rw[n];exact r)
 ·show rp g.op k _ j=none
  rw[kv (by omega)];exact hp.opens.past j hj
 ·by_cases e:j=k
  ·subst e
   have c:rp g.op j (some (w.heap.size,f,fg,0)) j=some (a,f',b,q):=hj;rw[kw]at c;cases c;exact⟨rG _ _ _,C,⟨_,hf⟩,h0,h1,sH _,by decide⟩
  ·have c:rp g.op k _ j=some (a,f',b,q):=hj
   rw[kv e]at c;obtain⟨a1,a2,a3⟩:=hp.opens.at_ j a f' b q c;obtain⟨o,d⟩:=m.at a2 a1 (fun e=>by cases e);exact⟨d,o,a3⟩
 ·have key:∀j x,rp g.op k (some (w.heap.size,f,fg,0)) j=some x->(j=k/\x.1=w.heap.size)\/(j≠k/\g.op j=some x):=fun j x hj=>by
   by_cases e:j=k
   ·subst e;rw[kw]at hj;cases hj;exact .inl ⟨rfl,rfl⟩
   ·rw[kv e]at hj;exact .inr ⟨e,hj⟩
  rcases key j x hj with⟨a1,a2⟩|⟨a1,a2⟩<;>rcases key l y hl with⟨o,d⟩|⟨o,d⟩
  ·rw[a1,o]
  ·have:=u l y d;omega
  ·have:=u j x a2;omega
  ·exact hp.opens.inj j l x y a2 d e
theorem BD.look_ok{of:eL->Option Nat}(h:BD tg w i B of lim)(hq:Good q){W:World}(b:ik w W):
  (Instr.lookup 161 (.map (some B.oF)) (.agg (fy q)) true).run prog W=.ok (.tuple #[((of q).map ptr).getD (.pointer none),.bool (of q).isSome]) W:=by
 obtain⟨_,⟨n,_,M,a,c,_⟩,_⟩:=h
 have:=(a.keep (w':=W) (b.block _ a.lt)).look_ok uS underlying161 (Mt W) (zu hq)
 have d:M (lC prog q)=(of q).map ptr:=c q hq;rw[d]at this;rw[this];cases of q<;>rfl
theorem Rz(h:eT tg w s i p B ey g lim)(hq:Good q)(hf:g.ft.of q=some f):
  gc 178 #[hh B.bt,.agg (fy q)] w fun b w'=>b=.returned (hh f)/\ik w w':=by
 have a:ik w (w.alloc (.cells (fy q) 147)).drew:=gS ((lh _ _).alloc (kx _) _);have hlk:=h.wp.qG.look_ok hq a;rw[hf]at hlk;obtain⟨e,t7,t8⟩:=h.tN;obtain⟨s0,s1,s2,s3,s4,c⟩:∃s0 s1 s2 s3 s4,fy q=(kq s0 s1 s2 s3 s4):=⟨_,_,_,_,_,rfl⟩;rw[c]at hlk a ⊢;simp only[mq,qj,Option.isSome_some,ptr]at hlk;have d:Hid _:=a;clear h a;go_enter func178,ntmps178;go_wp2
 go_region
 all_goals
  go_wp2;go_ret;exact⟨rfl,d.out⟩
theorem Vk(hr:eP es)(ht:iv es n=true){qi:pD es n<es.length}(hk:(es[pD es n]).2.1=1):jc es n=sf es n (1,0):=by
 rw[BI ht,<-Jn hr ht qi,hk]
theorem Vl{vD:eL->Value}(h:eT tg w s i p B ey g lim)(hD:fC tg w i B g.ft.od lim vD)(hl:lim<maxLen)(hp:Good (q++[n])){b c d:Nat}(ho:g.ft.od q=some es)(hv:vD q=.slice (some (eI b 0)) es.length c)(ht:iv es n=true)(t:pD es n=d)(hk:∀e∈es,e.1=n->e.2.1=1)(hid:id≠0):
  ∃a l,(Instr.mapUpdate 161 (.map (some B.oF)) (.agg (fy (q++[n]))) (hh w.heap.size)).run prog ((w.alloc (.cells #[hh B.sF,eJ id,.string hZ] 308)).setCell (eI b (d*3+2)) (eJ 0)).drew=.ok () a/\eB (Mine i) tg l w a/\
   eT l a s i p B ey { g with ft:={ g.ft with od:=upd g.ft.od q (some (sf es n (1,0))),of:=upd g.ft.of (q++[n]) (some w.heap.size) },fl:=rp g.fl w.heap.size (some (id,hZ)) } (lim+1):=by
 obtain⟨j,m⟩:=h.JB id;rw[fY hid]at j m;have u:=hD.moves j (fun x=>x);obtain⟨k,D,o⟩:=Ep m u ho hv ht;have v:=h.eZ ho;obtain⟨qi,y⟩:=nw ht;rw[t]at k o;rw[Vk v.rising ht (qi:=qi) (hk _ (kj qi) y)]at k;have r:Below ((w.alloc (.cells #[hh B.sF,eJ id,.string hZ] 308)).setCell (eI b (d*3+2)) (eJ 0)).heap.size _ ((w.alloc (.cells #[hh B.sF,eJ id,.string hZ] 308)).setCell (eI b (d*3+2)) (eJ 0)).drew:=gS (lh _ _);obtain⟨a,z,A,C⟩:=(k.below r).Ez hl hp (f:=w.heap.size) (x:=(id,hZ)) (kw _ _ _);exact⟨a,_,z,(j.mono (fun _ x=>x.elim)).trans ((o.mono YY).trans ((eB.eE r).trans (A.mono Vi))),C⟩
theorem RA(h:eT tg w s i p B ey g lim)(hl:lim+300<1099511627776)(hF:Flat ey t g.ft)(u:eU ey 5 t)(hp:Good (q++[n]))(l:t.at ey q=some d)(hk:kids ey d=some ks)(Q:fO ey t g.fs q)(m:ip ks n=some (.file id)):
  gc 178 #[hh B.bt,.agg (fy (q++[n]))] w fun aG w'=>∃f eF kG,aG=.returned (hh f)/\w.heap.size<=f/\eB (Mine i) tg eF w w'/\
   eT eF w' s i p B ey { g with ft:=kG,fl:=rp g.fl f (some (id,hZ)) } (lim+200)/\Flat ey (rb ey (fun ks=>sf ks n (.held f)) q t) kG:=by
 have hS:=h.st.sound;have hi:=h.two;have hq:Good q:=by have:=hp.dropLast;rwa [qY]at this
 have bz:q.length<=4:=by have:=hp.len;simp at this;omega
 have R:=(py hS _ u l).2.1;have C:=(lj hS R hk).1;have S:=Hk hS hF u l hk Q;have D:=jl l hk;have T:lY ey (lX ey t q):=by rw[D];exact uE hS R hk
 have U:iv (lX ey t q) n=true:=by rw[D,WF,<-oY C,m];rfl
 obtain⟨r,af⟩:=Gg C m;have V:t.at ey (q++[n])=some (.file id):=by rw[kB,l,qr,kh,hk,qr,m,qr,mr]
 have hid:id≠0:=by
  have hc:=(py hS _ u V).2.1;have aH:eM ey id=1:=by cases hn:5-(q++[n]).length<;>(rw[hn]at hc;simpa [eU]using hc)
  have:=FP aH (by decide);omega
 have ag:g.ft.of (q++[n])=none:=by rw[hF.of,V];rfl
 have ah:=fun f=>PY hS hF u l hk Q m f;obtain⟨aI,aJ,X,aK⟩:=oJ S;have E:ik w (w.alloc (.cells (fy (q++[n])) 147)).drew:=gS ((lh _ _).alloc (kx _) _);have hlk:=h.wp.qG.look_ok hp E;rw[ag]at hlk;simp only[Option.map_none,WE,Option.isSome_none]at hlk;obtain⟨vD,hD⟩:=h.wp.nI;have F:=fun W (G:ik w W)=>qJ (s:=s) (i:=i) (p:=p) (B:=B) (ey:=ey) q.reverse tg W g lim (lX ey t) vD (h.below G) (hD.moves (eB.eE (P:=fun _=>False) G) (fun x=>x)) (by rw[CN];omega) (by rw[pY];exact hq) (by rw[pY];exact S);rw[pY,CN]at F;have H:=fun W=>gp (q++[n]) hp W;have I:=fun W=>jY (q++[n]) hp (by simp) W;rw[qY]at H;simp only[EY]at I;obtain⟨s0,s1,s2,s3,s4,J⟩:∃s0 s1 s2 s3 s4,fy (q++[n])=(kq s0 s1 s2 s3 s4):=⟨_,_,_,_,_,rfl⟩;obtain⟨bA,bB,bC,bD,bE,Y⟩:∃s0 s1 s2 s3 s4,fy q=(kq s0 s1 s2 s3 s4):=⟨_,_,_,_,_,rfl⟩;unfold ju at H I;simp only[J,Y]at H I F hlk E;rw[J];obtain⟨bF,t7,_⟩:=h.tN;have aL:lim+20*(q.length+1)<maxLen:=by unfold maxLen;omega
 rw[D]at T U X;generalize ai:pD (ks.map mn) n=c at r;have aj:(ks.map mn)[c]'r=(n,1,id):=af;have ak:∀e∈ks.map mn,e.1=n->e.2.1=1:=by
  intro e aM aN;obtain⟨x,hx,rfl⟩:=ij.1 aM
  have:=kW C m hx aN
  show x.2.kind=1;rw[this];rfl
 have al:Hid _:=ai;have aO:Hid ((ks.map mn)[c]'r=(n,1,id)):=aj;have aP:Hid _:=ak;have bG:Hid _:=Y;have aQ:Hid _:=J;have bH:Hid _:=h;have aR:Hid _:=F;have Z:Hid _:=X;have am:Hid _:=T;have an:Hid _:=U;have aS:Hid _:=hp;have ao:Hid _:=h.st.fresh;have aT:Hid _:=ah;clear ai h hD F aI aJ X aK T U J Y S hF u l hk Q m ah hS R C D V ag af aj ak hp;go_enter func178,ntmps178;go_wp2
 go_region
 have aU:Hid _:=E;have ap:w.heap.size<(w.alloc (.cells (kq s0 s1 s2 s3 s4) 147)).drew.heap.size:=by simp
 have aV:Hid (qL (w.alloc (.cells (kq s0 s1 s2 s3 s4) 147)).drew w.heap.size s0 s1 s2 s3 s4):=by
  obtain⟨_,aW,v,aX,aY,aZ,_⟩:=rJ (su w (.cells (kq s0 s1 s2 s3 s4) 147));exact⟨aW,v,aX,aY,aZ⟩
 clear E hlk;go_wp2_with(first
  |(go_at_call 132;refine(H _).mono ?_;rintro e bb ⟨rfl,K⟩;have v:=fx aU.out K;have aa:=lO ap K.size;have bc:Hid _:=qL.keep aV.out (fun o=>(ii K).1 w.heap.size o ap)))
 refine io (aR.out bb v) ?_;rintro e w3 ⟨bI,rfl,bd,bJ,y,z,ab,aq,be⟩;have ar:Hid _:=qL.keep bc.out (vd (b:=w.heap.size) hi y aa (ao.out _ (kx _)));have bf:bd w.heap.size=(0,0):=(y.tags _ aa).trans (ao.out _ (kx _));have au:w.heap.size<w3.heap.size:=lO aa y.size;have k:=ab.row _ _ Z.out;obtain⟨a,bK,ac⟩:=fj k.1 (by omega);rw[ac]at aq k;subst aq;have L:a<w3.heap.size:=eK k.1 rfl;have Ik:=BK bf (k.2 a rfl) (UQ i);have bL:=BK z.wp.tree.tt (k.2 a rfl) (ZN i);have av:=z.tN;have aw:w3.cell? (eI B.bt 1)=some (hh B.sF):=by simp[World.cell?,z.wp.tree.ht,ptr]
 have bg:Hid (w3.cell? (eI a (c*3+2))=some (eJ id)):=by
  have:=Er k.1 r
  rw[aO.out]at this;exact this
 have bh:Hid _:=z;have bi:Hid _:=li v y;have bj:Hid _:=ab;have M:Hid _:=k;have bk:Hid _:=ac;have A:Hid _:=And.intro av aw;have bM:c<ks.length:=by simpa using r
 clear z y ab k ac be K v av aw;rw[nD];obtain⟨ax,a1,a2,a3,ay⟩:=ar.out;have ad:=fun W (G:ik w3 W)=>gY (eQ M.out.1 (fun bl bm=>G.block bl (eK M.out.1 bm))) n am.out.rising am.out.len
 rw[nD]at ad;have bn:Hid _:=ad;clear ad;go_wp2_with(first
  |(go_at_call 134;refine(I _).mono ?_;rintro e bN ⟨rfl,ae⟩)
  |(go_at_call 133;go_loud(refine io (bn.out _ ae) ?_;rintro e w5 ⟨rfl,az⟩;rw[al.out,an.out];have j:=fx ae az)))
 have N:=gS j;have bo:w.heap.size<w5.heap.size:=lO au j.size;have bp:B.bt<w5.heap.size:=lO A.out.1.1 j.size;have aA:a<w5.heap.size:=lO L j.size;have bq:Hid (qL w5 w.heap.size s0 s1 s2 s3 s4):=qL.keep ar.out (fun o=>(ii j).1 w.heap.size o au);have d1:w5.cell? (eI B.bt 1)=some (hh B.sF):=((ii j).1 _ _ A.out.1.1).trans A.out.2;have d7:w5.cell? (eI B.bt 7)=some (.map (some B.oF)):=((ii j).1 _ _ A.out.1.1).trans A.out.1.2.1;have aB:w5.cell? (eI a (c*3+2))=some (eJ id):=((ii j).1 _ _ L).trans bg.out;have fg:∀o,w5.frozen? (eI a o)=false:=fun o=>((ii j).2 _ _ L).trans (vQ M.out.1 o);have bO:∃x,w5.cell? (eI a (c*3))=some x:=⟨_,((ii j).1 _ _ L).trans (BM M.out.1 r).1⟩;obtain⟨br,bs,O,aC,aD⟩:=Vl (bh.out.below N) (bj.out.moves (eB.eE (P:=fun _=>False) N) (fun x=>x)) aL aS.out Z.out bk.out an.out al.out aP.out hid;rw[aQ.out]at O;have bt:=Jh B.sF id w5.drew;have aE:Hid _:=And.intro ((bi.out.trans (eB.eE N)).trans aC) aD;have bu:w.heap.size<=w5.heap.size:=xT bo;clear ax a1 a2 a3 ay aC aD N ae az;obtain⟨ax,a1,a2,a3,ay⟩:=bq.out;have bv:w5.drew.cell? (eI B.bt 1)=some (hh B.sF)/\w5.drew.cell? (eI a (c*3+2))=some (eJ id):=⟨d1,aB⟩;have bw:(w5.drew.alloc (.cells #[hh B.sF,eJ id,.string hZ] 308)).cell? (eI B.bt 1)=some (hh B.sF)/\(w5.drew.alloc (.cells #[hh B.sF,eJ id,.string hZ] 308)).cell? (eI a (c*3+2))=some (eJ id):=⟨by rw[WT _ _ _ (by exact bp)];exact d1,by rw[WT _ _ _ (by exact aA)];exact aB⟩
 go_region_held3 (fun w'=>w'.cell? (eI B.bt 1)=some (hh B.sF)/\w'.cell? (eI a (c*3+2))=some (eJ id)) (first|exact bv|exact bw) (first
  |(go_at_call 211;refine io bt ?_;rintro e w6 ⟨rfl,rfl⟩))
 have bx:((w5.drew.alloc (.cells #[hh B.sF,eJ id,.string hZ] 308)).setCell (eI a (c*3+2)) (eJ 0)).drew=((w5.setCell (eI a (c*3+2)) (eJ 0)).alloc (.cells #[hh B.sF,eJ id,.string hZ] 308)).drew.drew:=by simp[go_sem,aA]
 rw[bx]at O;replace O:(Instr.mapUpdate 161 (.map (some B.oF)) (.agg (kq s0 s1 s2 s3 s4)) (hh w5.heap.size)).run prog ((w5.setCell (eI a (c*3+2)) (eJ 0)).alloc (.cells #[hh B.sF,eJ id,.string hZ] 308)).drew.drew=.ok () br:=O;go_wp2
 go_region
 all_goals
  go_wp2;go_ret;exact⟨w5.heap.size,bs,_,rfl,bu,aE.out.1,aE.out.2.mono (by omega),by have aF:=aT.out w5.heap.size;rw[Z.out,qj]at aF;exact aF⟩
theorem JC(bt:Nat)(s0 s1 s2 s3 s4:eD)(m:Int)(w:World)(hm:16<=m):
  gc 177 #[hh bt,.agg (kq s0 s1 s2 s3 s4),eJ m] w fun a w'=>a=.returned (.tuple #[.pointer none,eJ 11])/\ik w w':=by
 go_enter func177,ntmps177;go_wp2;go_ret2;exact⟨rfl,(lh _ _).alloc (kx _) _⟩
theorem OE(ey:List Ob)(n f:Nat):eU ey n (.held f):=by cases n<;>simp[eU]
theorem MI(h:eT tg w s i p B ey g lim)(hl:lim+500<1099511627776)(hF:Flat ey t g.ft)(j:eU ey 5 t)(hp:Good (q++[n]))(a:t.at ey q=some d)(hk:kids ey d=some ks)(r:fO ey t g.fs q)(u:ip ks n=none)(iE:ks.length<16)(m:Int)(hm:m<16):
  gc 177 #[hh B.bt,.agg (fy (q++[n])),eJ m] w fun O w'=>∃f eF kG,O=.returned (.tuple #[hh f,eJ 0])/\w.heap.size<=f/\eB (Mine i) tg eF w w'/\
   eT eF w' s i p B ey { g with ft:=kG,fl:=rp g.fl f (some (0,hZ)) } (lim+200)/\Flat ey (rb ey (fun ks=>sf ks n (.held f)) q t) kG:=by
 have hS:=h.st.sound;have hi:=h.two;have v:=(py hS _ j a).2.1;have E:=(lj hS v hk).1;have F:=Hk hS hF j a hk r;have k:=jl a hk;have G:lY ey (lX ey t q):=by rw[k];exact uE hS v hk
 have H:iv (lX ey t q) n=false:=by rw[k,WF,<-oY E,u];rfl
 have I:(lX ey t q).length<16:=by rw[k,nD];exact iE
 have J:=fun f=>Il hS hF j a hk r u f;obtain⟨vD,hD⟩:=h.wp.nI;have y:=fun W (K:ik w W)=>Ge (h.below K) (hD.moves (eB.eE (P:=fun _=>False) K) (fun x=>x)) (by omega) hp F G H I hZ 1 0 ⟨.inl rfl,fun hx=>absurd rfl hx⟩;obtain⟨s0,s1,s2,s3,s4,l⟩:∃s0 s1 s2 s3 s4,fy (q++[n])=(kq s0 s1 s2 s3 s4):=⟨_,_,_,_,_,rfl⟩;simp only[l]at y;rw[l];have Q:Hid _:=l;have R:Hid _:=y;have S:Hid _:=h.st.fresh;have T:Hid _:=hp;have U:Hid _:=J;have V:lim+150<maxLen:=by unfold maxLen;omega
 clear y J l h hD hF j F k G H I a hk r u hS v E hp;have X:=fun W=>LW W
 go_enter func177,ntmps177;go_wp2_with fail;refine io (R.out _ ((lh w.heap.size w).alloc (kx _) _)) ?_;rintro e c ⟨rfl,ai,aj,o,z,Y⟩;have Z:Hid (qL (w.alloc (.cells (kq s0 s1 s2 s3 s4) 147)) w.heap.size s0 s1 s2 s3 s4):=by
  obtain⟨_,aa,ab,ac,ad,ae,_⟩:=rJ (su w (.cells (kq s0 s1 s2 s3 s4) 147));exact⟨aa,ab,ac,ad,ae⟩
 have af:Hid _:=qL.keep Z.out (vd (b:=w.heap.size) hi o (gu _ _) (S.out _ (kx _)));have ag:w.heap.size<c.heap.size:=lO (gu _ _) o.size;obtain⟨A,C⟩:=z.JB 0;rw[ie rfl]at A C;have D:Below (c.alloc (.cells #[.pointer none,eJ 0,.string hZ] 308)).heap.size _ (c.alloc (.cells #[.pointer none,eJ 0,.string hZ] 308)).drew:=gS (lh _ _);obtain⟨ak,ah,L,M⟩:=(C.below D).Ez V T.out (f:=c.heap.size) (x:=(0,hZ)) (kw _ _ _);rw[Q.out]at ah;have N:Hid _:=And.intro ((li ((lh w.heap.size w).alloc (kx _) _) o).trans ((A.mono (fun _ x=>x.elim)).trans ((eB.eE D).trans (L.mono Vi)))) M;obtain⟨al,t7,_⟩:=z.tN;obtain⟨am,a1,a2,a3,an⟩:=af.out;clear o z Y A C D L M;go_wp2_with(go_at_call 210;refine io (X _) ?_;rintro e ao ⟨rfl,rfl⟩)
 go_region
 all_goals
  go_wp2;go_ret2;exact⟨c.heap.size,_,_,rfl,xT ag,N.out.1,N.out.2.mono (by omega),U.out _⟩
end
end Go.Proofs.YtlgidcmmgohagaaGreat
