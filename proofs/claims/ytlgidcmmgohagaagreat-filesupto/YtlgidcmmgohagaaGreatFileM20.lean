/- What is proved here: the end of UM. -/
import Derived.Test.YtlgidcmmgohagaaGreatFileM19
import Derived.Deep.RegionHeld3
import Derived.Test.YtlgidcmmgohagaaGreatFileM18
import Derived.Test.YtlgidcmmgohagaaGreatFileM14
namespace Go.Proofs.YtlgidcmmgohagaaGreat
open Go.RowKit Go.Sort Go.Shelf Go.Proofs.Tryz
set_option linter.unusedVariables false
set_option maxRecDepth 100000
set_option maxHeartbeats 16000000
variable {dst q qf qt rf rt src:eB}{fg id:Int}{d0 d1 d2 d3 d4 n nf nt s0 s1 s2 s3 s4:eu}{ei:List Ob}{a b f i k lim:Nat}{c d df dt t:LT}{kf ks kt:Kids}{op:Nat->Option (Nat×Nat×Int×Int)}{fs:FS}{w w':World}{tg:eM}{g:WG}{es:List eD}{x:Int×eu}
theorem LV(hr:eF kf)(c:t.at ei qf=some df)(hk:kids ei df=some kf)(ht:g9 kf nf=true)(b:t.at ei qt=some dt)(d:kids ei dt=some kt)(KL:¬(qf++[nf]) <+: qt)(hne:qt++[nt]≠qf++[nf])
  {d1:LT}{f:Kids}(a:(m1 ei (fun ks=>lh ks nf) qf t).at ei qt=some d1)(e2:kids ei d1=some f):(g8 f nt).isSome=(g8 kt nt).isSome/\f.length<=kt.length/\(qf=qt->f.length<kt.length):=by
 obtain⟨j,k⟩:=ve ei (fun ks=>lh ks nf) qf t df kf c hk;by_cases h:qf <+: qt
 ·obtain⟨s,rfl⟩:=h
  cases s with
  |nil=>
   rw[nH]at b a hne ⊢;rw[k]at a;cases a;rw[c]at b;cases b;rw[hk]at d;cases d;have g:some (lh kf nf)=some f:=e2;cases g;have hn:nt≠nf:=fun e=>hne (by rw[e])
   have hl:=tN ht;have n:=nL ht;exact⟨by rw[gN hr ht,eJ hn],by omega,fun _=>by omega⟩
  |cons m r=>
   have hm:m≠nf:=fun e=>KL (by rw[e];exact⟨r,by simp⟩);rw[j,gN hr ht,eJ hm]at a;rw[i1,c,my,h9,hk,my]at b;rw[b]at a;cases a;rw[d]at e2;cases e2;exact⟨rfl,io _,fun e=>by have:=rp List.length e;simp at this⟩
 ·by_cases h2:qt <+: qf
  ·obtain⟨m,hm,l⟩:=iN h2 (fun e=>h (e▸mB _))
   obtain⟨r,i⟩:=l;have i:qf=qt++m::r:=by rw[<-i];simp
   rw[i]at c a;obtain⟨o,p,h1,h2,h3⟩:=j0 ei (fun ks=>lh ks nf) qt m r t df c;rw[b]at h1;cases h1;rw[d]at h2;cases h2;rw[h3]at a;cases a;have g:=e2;simp only[kids,kE]at g;rw[<-g];refine⟨?_,by rw[kU];exact io _,fun e=>by rw[i]at e;have:=rp List.length e;simp at this⟩;rw[kM];split
   ·cases g8 kt nt<;>rfl
   ·rfl
  ·rw[gM ei _ qf qt t df c h2 h,b]at a
   cases a;rw[d]at e2;cases e2;exact⟨rfl,io _,fun e=>absurd (e▸mB _) h⟩
theorem LW(f:t.at ei qf=some df)(hk:kids ei df=some kf)(hp:g8 kf nf=some c)(b:t.at ei qt=some dt)(d:kids ei dt=some kt)(hne:qt++[nt]≠qf++[nf])
  (g:∀e,g8 kt nt=some e->kids ei e=none\/kids ei e=some []):¬(qt++[nt]) <+: (qf++[nf]):=by
 rintro⟨r,hr⟩;have hc:t.at ei (qf++[nf])=some c:=by rw[i1,f,my,h9,hk,my,hp,my,k0]
 cases r with
 |nil=>rw[nH]at hr;exact hne hr
 |cons m r=>
  rw[<-hr]at hc;cases a:g8 kt nt with
  |none=>
   rw[iK,i1,b,my,M8,h9,d,my,a]at hc;cases hc
  |some e=>
   have h:t.at ei (qt++[nt])=some e:=by rw[i1,b,my,h9,d,my,a,my,k0]
   rw[j3 h (g e a)]at hc;cases hc
section
variable {s i p:Nat}{B:WB}{ei:List Ob}
theorem HZ(h:eH tg w s i p B ei g lim)(hl:lim<1099511627776)(c:Good src)(a:Good dst)(d:∀x,dst <+: x->g.ft.of x=none)(b:∀x f,src <+: x->g.ft.of x=some f->dst.length+(x.length-src.length)<=5):
  eK 144 #[.map (some B.oF),.agg (et src),.agg (et dst)] w fun e w'=>e=.returned (.tuple #[])/\eo (fun t=>t=(i,4)) tg tg w w'/\eH tg w' s i p B ei { g with ft:={ g.ft with of:=qr g.ft.of src dst } } lim:=by
 obtain⟨ht,⟨n,hn,hm⟩,hg⟩:=h.wp.nY;refine(EU B.oF n _ src dst w c a hm (by omega) (fun x hx=>by rw[d x hx];rfl) (fun x hx hne=>?_) (fun x hne=>?_)).mono fun e w' ⟨h1,h2,h3⟩=>⟨h1,Aj h a b hn h2 h3⟩
 ·cases hf:g.ft.of x with
  |none=>rw[hf]at hne;exact absurd rfl hne
  |some f=>exact b x f hx hf
 ·cases hf:g.ft.of x with
  |none=>rw[hf]at hne;exact absurd rfl hne
  |some f=>exact hg x f hf
theorem H6(h:eH tg w s i p B ei g lim)(hl:lim<1099511627776)(c:Good src)(a:Good dst)(d:∀x,dst <+: x->g.ft.od x=none)(b:∀x f,src <+: x->g.ft.od x=some f->dst.length+(x.length-src.length)<=5):
  eK 145 #[.map (some B.oD),.agg (et src),.agg (et dst)] w fun e w'=>e=.returned (.tuple #[])/\eo (fun t=>t=(i,5)) tg tg w w'/\eH tg w' s i p B ei { g with ft:={ g.ft with od:=qr g.ft.od src dst } } lim:=by
 obtain⟨vD,hD⟩:=h.wp.kX;obtain⟨n,hn,hm⟩:=hD.map;refine(EW B.oD n _ src dst w c a hm (by omega) (fun x hx=>by rw[d x hx];rfl) (fun x hx hne=>?_) (fun x hne=>?_)).mono fun e w' ⟨h1,h2,h3⟩=>⟨h1,CH h hD a b hn h2 h3⟩
 ·cases hf:g.ft.od x with
  |none=>rw[hf]at hne;exact absurd rfl hne
  |some f=>exact b x f hx hf
 ·cases hf:g.ft.od x with
  |none=>rw[hf]at hne;exact absurd rfl hne
  |some f=>exact(hD.good x f hf).1
def mz (tg:eM)(w w':World):Prop:=w.heap.size<=w'.heap.size/\∀b,b<w.heap.size->tg b=(0,0)->∀o,w'.cell? ⟨b,o,none⟩=w.cell? ⟨b,o,none⟩
theorem mz.kP{tg ey:eM}(hi:2<=i)(m:eo (Mine i) tg ey w w'):mz tg w w':=⟨m.size,fun b a ht o=>py hi m a ht o⟩
end
theorem JH:∀(n m:Nat) {c:LT},n<=m->eL ei n c->eL ei m c
 |n,m,.file id,_,h=>by
  have:eC ei id=1:=by cases n<;>simpa [eL]using h
  cases m<;>simpa [eL]using this
 |n,m,.held f,_,_=>by cases m<;>simp[eL]
 |n,m,.dir id,a,h=>by
  have h1:eC ei id=2/\eY ei id<=n:=by cases n<;>simpa [eL]using h
  have h2:eY ei id<=m:=by omega
  cases m<;>(rw[eL];exact⟨h1.1,h2⟩)
 |0,m,.own es,_,h=>by
  rw[eL]at h
  subst h
  exact sw List.Pairwise.nil (by simp) (by simp)
 |n+1,0,.own es,a,_=>by omega
 |n+1,m+1,.own es,a,h=>by
  rw[eL]at h ⊢
  exact⟨h.1,h.2.1,fun x hx=>⟨(h.2.2 x hx).1,JH n m (by omega) (h.2.2 x hx).2⟩⟩
theorem rA(hS:Sound ei){n:Nat}(a:eL ei n d)(hk:kids ei d=some ks):jK ei (ks.map kB):=by
 obtain⟨b,c,f⟩:=jp hS a hk;refine⟨by rw[jy];exact iZ _ b,by rw[kU];exact c,fun e g=>?_⟩;obtain⟨x,hx,rfl⟩:=H3.1 g;obtain⟨h1,m,_,h3⟩:=f x hx;exact⟨h1,yU h3 x.1⟩
section
variable {s i p:Nat}{B:WB}{ei:List Ob}
def H7 (B:WB)(w:World):Prop:=B.bt<w.heap.size/\w.cell? ⟨B.bt,7,none⟩=some (.map (some B.oF))/\w.cell? ⟨B.bt,8,none⟩=some (.map (some B.oD))
theorem eH.qz(h:eH tg w s i p B ei g lim):H7 B w:=by
 obtain⟨h1,h2,h3,_⟩:=h.wp.tree.cells;exact⟨h1,h3,h2⟩
theorem O2(t:Nat×Nat)(h:t=(i,4)):Mine i t:=.inr (by rw[h])
theorem Sr(t:Nat×Nat)(h:t=(i,5)):Mine i t:=.inr (by rw[h])
theorem CI(h:eH tg w s i p B ei g lim)(hl:lim+700<1099511627776)(hF:Flat ei t g.ft)(d:eL ei 5 t)(z:Good (qf++[nf]))(n:Good (qt++[nt]))
  (b:t.at ei qf=some df)(hk:kids ei df=some kf)(hp:g8 kf nf=some c)(j:t.at ei qt=some dt)(k:kids ei dt=some kt)(K:fC ei t g.fs qf)(hwt:fC ei t g.fs qt)
  (KL:¬(qf++[nf]) <+: (qt++[nt]))(L:∀e,g8 kt nt=some e->kids ei e=none\/kids ei e=some [])(NE:g8 kt nt=none->kt.length<16\/qf=qt)(aO:((qt.length+1:Nat):Int)+H2 ei 5 c<=5)(nm:eu):
  eK 138 #[fj B.bt,.agg (et (qf++[nf]))] w fun e o=>e=.returned (.tuple #[])/\mz tg w o/\
   eK 135 #[fj B.bt,.agg (et (qt++[nt])),.agg #[.string nm,ed c.kind,ed c.id]] o fun e A=>e=.returned (.tuple #[])/\mz tg w A/\
    ∀W2,gS A W2->mz tg w W2/\H7 B W2/\eK 144 #[.map (some B.oF),.agg (et (qf++[nf])),.agg (et (qt++[nt]))] W2 fun e w3=>e=.returned (.tuple #[])/\
     ∀W3,gS w3 W3->mz tg w W3/\H7 B W3/\eK 145 #[.map (some B.oD),.agg (et (qf++[nf])),.agg (et (qt++[nt]))] W3 fun e M=>e=.returned (.tuple #[])/\
      Left s i p B ei tg w M g g.fs (m1 ei (fun ks=>n7 ks nt c) qt (m1 ei (fun ks=>lh ks nf) qf t)) (lim+300):=by
 have hS:=h.st.sound;have hi:=h.two;have N:=(mf hS _ d b).2.1;have O:=(jp hS N hk).1;have P:g9 kf nf=true:=by rw[<-lr O,hp];rfl
 have hne:qt++[nt]≠qf++[nf]:=fun e=>KL (e▸mB _);have Um:=LW b hk hp j k hne L;have Js:¬(qf++[nf]) <+: qt:=fun hx=>KL (hx.trans (kV _ _));have Q:t.at ei (qf++[nf])=some c:=by rw[i1,b,my,h9,hk,my,hp,my,k0]
 have R:=(mf hS _ d Q).2.1;have aP:qt.length+1<=5:=by have:=n.len;simp at this;omega
 have S:eL ei (5-(qt.length+1)) c:=N2 hS 5 (by
  have h1:=R;exact JH _ _ (Nat.sub_le _ _) h1) (by omega)
 have T:=un hS hF d b hk K;have U:=gz b hk;have aq:jK ei (jJ ei t qf):=by rw[U];exact rA hS N hk
 have ar:g9 (jJ ei t qf) nf=true:=by rw[U,xn];exact P
 obtain⟨d1,aQ,q,e2,au,C⟩:=D5 hS hF d b hk hp j k K hwt KL Um;obtain⟨V,aR,W⟩:=LV O b hk P j k Js hne q e2;have X:=tT hS d b hk nf;have D:=(mf hS _ X q).2.1;have E:=gz q e2;have Y:jK ei (jJ ei (m1 ei (fun ks=>lh ks nf) qf t) qt):=by rw[E];exact rA hS D e2
 have Z:g9 (jJ ei (m1 ei (fun ks=>lh ks nf) qf t) qt) nt=(g8 kt nt).isSome:=by rw[E,xn,<-lr (jp hS D e2).1,V]
 obtain⟨t1,t2,t3⟩:=sx T nf;obtain⟨aS,aa,ab,av,aw⟩:=qU C nt (c.kind,c.id);have ac:jP ei (nt,c.kind,c.id):=yU R nt;have ax:∀r,t.at ei (qt++nt::r)≠none->∃e,g8 kt nt=some e/\r=[]:=fun r hr=>by
  cases F:g8 kt nt with
  |none=>rw[i1,j,my,h9,k,my,F]at hr;exact absurd rfl hr
  |some e=>
   cases r with
   |nil=>exact⟨e,rfl,rfl⟩
   |cons m r=>
    have ay:t.at ei (qt++[nt])=some e:=by rw[i1,j,my,h9,k,my,F,my,k0]
    have:=j3 ay (L e F) m r
    rw[iK,M8]at this;exact absurd this hr
 have ad:∀x,(qt++[nt]) <+: x->(jm ei g.fs (iw ei g.fs g.ft qf nf) qt nt (c.kind,c.id)).od x=none/\(jm ei g.fs (iw ei g.fs g.ft qf nf) qt nt (c.kind,c.id)).of x=none:=by
  rintro x ⟨r,rfl⟩;rw[iK,M8];have ae:r≠[]\/g8 kt nt=none->t.at ei (qt++nt::r)=none:=fun hr=>by
   cases hx:t.at ei (qt++nt::r) with
   |none=>rfl
   |some y=>
    obtain⟨e,az,aA⟩:=ax r (by rw[hx];simp);rcases hr with hr|hr
    ·exact absurd aA hr
    ·rw[az]at hr;cases hr
  have G:qt++nt::r≠qt:=fun e=>by have:=rp List.length e;simp at this
  have H:¬(qt++nt::r) <+: qt:=fun e=>by have:=e.length_le;simp at this;omega
  have u:qt++nt::r≠qf:=fun e=>Um (by rw[<-e];exact⟨r++[nf],by simp⟩);have v:¬(qt++nt::r) <+: qf:=fun e=>Um ((List.IsPrefix.trans ⟨r,by simp⟩ e).trans (kV _ _));by_cases hr:r=[]
  ·subst hr
   rw[av,aw];by_cases a:g9 (jJ ei (m1 ei (fun ks=>lh ks nf) qf t) qt) nt=true
   ·rw[fY a,fY a];exact⟨rfl,rfl⟩
   ·have I:g8 kt nt=none:=by
     rw[Z]at a;cases hc:g8 kt nt with
     |none=>rfl
     |some y=>rw[hc]at a;exact absurd rfl a
    rw[eJ a,eJ a,t2,eJ u,eJ v,t3,hF.od,hF.of,ae (.inr I)];exact⟨rfl,rfl⟩
  ·have hx:qt++nt::r≠qt++[nt]:=fun e=>hr (by simpa using e)
   rw[aa _ hx,ab _ hx,eJ G,eJ H,t2,eJ u,eJ v,t3,hF.od,hF.of,ae (.inl hr)];exact⟨rfl,rfl⟩
 have af:∀x,(qf++[nf]) <+: x->(jm ei g.fs (iw ei g.fs g.ft qf nf) qt nt (c.kind,c.id)).od x=r9 (t.at ei x)/\(jm ei g.fs (iw ei g.fs g.ft qf nf) qt nt (c.kind,c.id)).of x=GJ (t.at ei x)/\(t.at ei x≠none->(qt++[nt]).length+(x.length-(qf++[nf]).length)<=5):=by
  rintro x ⟨r,rfl⟩;have hx:(qf++[nf])++r≠qt++[nt]:=fun e=>KL (by rw[<-e];exact kV _ _)
  have G:(qf++[nf])++r≠qt:=fun e=>Js (by rw[<-e];exact kV _ _);have H:¬((qf++[nf])++r) <+: qt:=fun e=>Js ((kV _ _).trans e);have u:(qf++[nf])++r≠qf:=fun e=>by have:=rp List.length e;simp at this;try omega
  have v:¬((qf++[nf])++r) <+: qf:=fun e=>by have:=e.length_le;simp at this;omega
  refine⟨by rw[aa _ hx,eJ G,eJ H,t2,eJ u,eJ v,hF.od],by rw[ab _ hx,t3,hF.of],fun hr=>?_⟩;cases J:t.at ei ((qf++[nf])++r) with
  |none=>exact absurd J hr
  |some y=>
   rw[i1,Q,my]at J
   have:=(mf hS _ S J).1
   simp;omega
 obtain⟨vD,aB⟩:=h.wp.kX;refine(EN h aB (by omega) z T aq ar).mono ?_;rintro e o ⟨rfl,aC,aT,ag,ah,ai⟩;refine⟨rfl,mz.kP hi ag,?_⟩;have aD:eK 135 #[fj B.bt,.agg (et (qt++[nt])),.agg #[.string nm,ed c.kind,ed c.id]] o fun aE w'=>aE=.returned (.tuple #[])/\∃ey aF,eo (Mine i) aC ey o w'/\
   eH ey w' s i p B ei { g with ft:=jm ei g.fs (iw ei g.fs g.ft qf nf) qt nt (c.kind,c.id) } (lim+150+150)/\eZ ey w' i B (jm ei g.fs (iw ei g.fs g.ft qf nf) qt nt (c.kind,c.id)).od (lim+150+150) aF:=by
  cases a:g9 (jJ ei (m1 ei (fun ks=>lh ks nf) qf t) qt) nt with
  |true=>exact OY ah ai (by omega) n C Y a nm c.kind c.id ac
  |false=>
   refine CC ah ai (by omega) n C Y a ?_ nm c.kind c.id ac;rw[E,kU];have I:g8 kt nt=none:=by
    rw[Z]at a;cases hc:g8 kt nt with
    |none=>rfl
    |some y=>rw[hc]at a;cases a
   have aG:=(jp hS (mf hS _ d j).2.1 k).2.1;rcases NE I with hx|hx
   ·omega
   ·have:=W hx;omega
 refine aD.mono ?_;rintro e A ⟨rfl,aH,aU,aI,aJ,aV⟩;have aj:=ag.trans aI;refine⟨rfl,mz.kP hi aj,fun W2 ak=>?_⟩;have al:=aJ.below ak;have am:=aj.trans (eo.ew ak);refine⟨mz.kP hi am,al.qz,?_⟩;refine(HZ al (by omega) z n (fun x hx=>(ad x hx).2) (fun x f hx hf=>?_)).mono ?_
 ·obtain⟨_,a2,a3⟩:=af x hx
  have l:(jm ei g.fs (iw ei g.fs g.ft qf nf) qt nt (c.kind,c.id)).of x=some f:=hf;rw[a2]at l;exact a3 (fun e=>by rw[e]at l;cases l)
 ·rintro e w3 ⟨rfl,aK,aL⟩
  refine⟨rfl,fun W3 an=>?_⟩;have ao:=aL.below an;have ap:=(am.trans (aK.mono O2)).trans (eo.ew an);refine⟨mz.kP hi ap,ao.qz,?_⟩;refine(H6 ao (by omega) z n (fun x hx=>(ad x hx).1) (fun x f hx hf=>?_)).mono ?_
  ·obtain⟨a1,_,a3⟩:=af x hx
   have l:(jm ei g.fs (iw ei g.fs g.ft qf nf) qt nt (c.kind,c.id)).od x=some f:=hf;rw[a1]at l;exact a3 (fun e=>by rw[e]at l;cases l)
  ·rintro e M ⟨rfl,aM,aN⟩
   refine⟨rfl,aH,_,ap.trans (aM.mono Sr),aN,au,?_⟩;exact CD hS X q e2 (n.val nt (by simp)) (by omega) S (by
    rw[<-lr (jp hS D e2).1,V];cases hc:g8 kt nt with
    |some y=>exact .inl rfl
    |none=>
     right
     have aG:=(jp hS (mf hS _ d j).2.1 k).2.1;rcases NE hc with hx|hx
     ·omega
     ·have:=W hx;omega)
end
theorem EX{e c:LT}(h:(T1 ei fs e c).2=0):fs.Next (T1 ei fs e c).1/\(kids ei e=none\/kids ei e=some []):=by
 unfold T1 at h ⊢;by_cases h1:e.kind=2/\c.kind=1
 ·rw[fY h1]at h;cases h
 ·rw[eJ h1]at h ⊢
  by_cases h2:e.kind=1/\c.kind=2
  ·rw[fY h2]at h;cases h
  ·rw[eJ h2]at h ⊢
   exact wH h
theorem LX{b:Bool}(h:(gX ei fs b ks n c).2=0):fs.Next (gX ei fs b ks n c).1/\(∀e,g8 ks n=some e->kids ei e=none\/kids ei e=some [])/\(g8 ks n=none->ks.length<16\/b=true):=by
 unfold gX at h ⊢;cases hp:g8 ks n with
 |some e=>
  rw[hp]at h;simp only at h ⊢;obtain⟨h1,h2⟩:=EX h;exact⟨h1,fun d a=>by cases a;exact h2,fun hn=>by cases hn⟩
 |none=>
  rw[hp]at h;simp only at h ⊢;by_cases NE:16<=ks.length/\b=false
  ·rw[fY NE]at h;cases h
  ·rw[eJ NE]
   refine⟨FS.Next.refl _,fun e a=>(by cases a),fun _=>?_⟩;by_cases hl:ks.length<16
   ·exact .inl hl
   ·right
    cases b with
    |true=>rfl
    |false=>exact absurd ⟨by omega,rfl⟩ NE
section
variable {s i p:Nat}{B:WB}{ei:List Ob}
theorem O3(h:eH tg w s i p B ei g lim)(hl:lim+10<1099511627776)(hF:Flat ei t g.ft)(b:eL ei 5 t)(f:Good (rf.reverse++[nf]))(j:Good (rt.reverse++[nt]))(k:t.at ei rt.reverse=some d)(hk:kids ei d=some ks){v:Value}(hs:pQ tg w i v (ks.map kB))(a:eu):
  eK 141 #[fj B.bt,.agg (et (rf.reverse++[nf])),.agg (et (rt.reverse++[nt])),.agg #[.string a,ed c.kind,ed c.id],v] w fun l w'=>l=.returned (ed (gX ei g.fs (decide (rf=rt)) ks nt c).2)/\iq s i p B ei tg w w' { g with fs:=(gX ei g.fs (decide (rf=rt)) ks nt c).1 } (lim+1):=by
 unfold gX;cases hp:g8 ks nt with
 |some e=>exact HJ h hl hF b f j k hk hp hs a
 |none=>
  have hc:(16<=ks.length/\decide (rf=rt)=false)↔(16<=ks.length/\rf.reverse≠rt.reverse):=by
   simp[List.reverse_inj]
  refine(LO h hF b f j k hk hp hs a c.kind c.id).mono fun l w' ⟨h1,h2⟩=>?_;simp only[hc];by_cases NE:16<=ks.length/\rf.reverse≠rt.reverse
  ·rw[if_pos NE]at h1 ⊢;exact⟨h1,h2.mono (Nat.le_succ _)⟩
  ·rw[if_neg NE]at h1 ⊢;exact⟨h1,h2.mono (Nat.le_succ _)⟩
end
def oa (w':World)(a:Nat)(b c d e f:eu):Prop:=w'.cell? ⟨a,0,none⟩=some (.string b)/\w'.cell? ⟨a,1,none⟩=some (.string c)/\w'.cell? ⟨a,2,none⟩=some (.string d)/\w'.cell? ⟨a,3,none⟩=some (.string e)/\w'.cell? ⟨a,4,none⟩=some (.string f)
theorem oa.keep{b c d e f:eu}(h:oa w a b c d e f)(g:∀o,w'.cell? (eb a o)=w.cell? (eb a o)):oa w' a b c d e f:=by
 unfold oa at h ⊢;simp only[g];exact h
def gR (w':World)(a b:Nat)(s0 s1 s2 s3 s4 d0 d1 d2 d3 d4:eu):Prop:=w'.cell? ⟨a,0,none⟩=some (.string s0)/\w'.cell? ⟨a,1,none⟩=some (.string s1)/\w'.cell? ⟨a,2,none⟩=some (.string s2)/\w'.cell? ⟨a,3,none⟩=some (.string s3)/\w'.cell? ⟨a,4,none⟩=some (.string s4)/\w'.cell? ⟨b,0,none⟩=some (.string d0)/\w'.cell? ⟨b,1,none⟩=some (.string d1)/\w'.cell? ⟨b,2,none⟩=some (.string d2)/\w'.cell? ⟨b,3,none⟩=some (.string d3)/\w'.cell? ⟨b,4,none⟩=some (.string d4)
theorem gR.keep(h:gR w a b s0 s1 s2 s3 s4 d0 d1 d2 d3 d4)(c:∀o,w'.cell? (eb a o)=w.cell? (eb a o))(d:∀o,w'.cell? (eb b o)=w.cell? (eb b o)):gR w' a b s0 s1 s2 s3 s4 d0 d1 d2 d3 d4:=by
 unfold gR at h ⊢;simp only[c,d];exact h
theorem gR.below(h:gR w a b s0 s1 s2 s3 s4 d0 d1 d2 d3 d4)(hw:gS w w')(c:a<w.heap.size)(d:b<w.heap.size):gR w' a b s0 s1 s2 s3 s4 d0 d1 d2 d3 d4:=
 h.keep (fun o=>(gc hw).1 a o c) (fun o=>(gc hw).1 b o d)
theorem Bo(w:World)(s0 s1 s2 s3 s4 d0 d1 d2 d3 d4:eu):gR ((w.alloc (.cells (ii s0 s1 s2 s3 s4) 147)).alloc (.cells (ii d0 d1 d2 d3 d4) 147)).drew w.heap.size (w.heap.size+1) s0 s1 s2 s3 s4 d0 d1 d2 d3 d4/\w.heap.size<((w.alloc (.cells (ii s0 s1 s2 s3 s4) 147)).alloc (.cells (ii d0 d1 d2 d3 d4) 147)).drew.heap.size/\w.heap.size+1<((w.alloc (.cells (ii s0 s1 s2 s3 s4) 147)).alloc (.cells (ii d0 d1 d2 d3 d4) 147)).drew.heap.size/\gS w ((w.alloc (.cells (ii s0 s1 s2 s3 s4) 147)).alloc (.cells (ii d0 d1 d2 d3 d4) 147)).drew:=by
 refine⟨?_,by simp;omega,by simp,eQ (((i7 _ _).alloc (io _) _).alloc (by simp) _)⟩;have h1:=SD w (.cells (ii s0 s1 s2 s3 s4) 147) (.cells (ii d0 d1 d2 d3 d4) 147);have h2:=heap_alloc2_new w (.cells (ii s0 s1 s2 s3 s4) 147) (.cells (ii d0 d1 d2 d3 d4) 147);obtain⟨_,a,a1,a2,a3,b,_⟩:=oU h1;obtain⟨_,c,d,e,f,g,_⟩:=oU h2;exact⟨a,a1,a2,a3,b,c,d,e,f,g⟩
theorem gR.kept(h:gR w a b s0 s1 s2 s3 s4 d0 d1 d2 d3 d4)(k:mz tg w w')(c:a<w.heap.size)(d:b<w.heap.size)(ta:tg a=(0,0))(e:tg b=(0,0)):gR w' a b s0 s1 s2 s3 s4 d0 d1 d2 d3 d4:=
 h.keep (k.2 a c ta) (k.2 b d e)
theorem gR.and(h:gR w' a b s0 s1 s2 s3 s4 d0 d1 d2 d3 d4){q:Prop}(hq:q):w'.cell? (eb a 0)=some (.string s0)/\w'.cell? (eb a 1)=some (.string s1)/\w'.cell? (eb a 2)=some (.string s2)/\w'.cell? (eb a 3)=some (.string s3)/\w'.cell? (eb a 4)=some (.string s4)/\w'.cell? (eb b 0)=some (.string d0)/\w'.cell? (eb b 1)=some (.string d1)/\w'.cell? (eb b 2)=some (.string d2)/\w'.cell? (eb b 3)=some (.string d3)/\w'.cell? (eb b 4)=some (.string d4)/\q:=by
 obtain⟨h0,h1,h2,h3,c,d,h6,e,h8,f⟩:=h;exact⟨h0,h1,h2,h3,c,d,h6,e,h8,f,hq⟩
def qA (w':World)(a:Nat)(n:eu)(k id:Int):Prop:=w'.cell? ⟨a,0,none⟩=some (.string n)/\w'.cell? ⟨a,1,none⟩=some (.int .i64 k)/\w'.cell? ⟨a,2,none⟩=some (.int .i64 id)
theorem qA.keep{k id:Int}(h:qA w a n k id)(b:∀o,w'.cell? (eb a o)=w.cell? (eb a o)):qA w' a n k id:=by
 unfold qA at h ⊢;simp only[b];exact h
theorem qA.of_block{k id:Int}{t:fL}(h:w.heap[b]?=some (.cells #[.string n,ed k,ed id] t (0,0))):qA w b n k id:=
 ⟨by simp[World.cell?,h],by simp[World.cell?,h],by simp[World.cell?,h]⟩
theorem LY(w:World)(n:eu)(k id:Int):qA (w.alloc (.cells #[.string n,ed k,ed id] 96)) w.heap.size n k id:=.of_block (pM w _)
section
variable {s i p:Nat}{B:WB}{ei:List Ob}
theorem EY{d c:World}{fs':FS}{t':LT}(h:gR d a b s0 s1 s2 s3 s4 d0 d1 d2 d3 d4)(e:a<d.heap.size)(f:b<d.heap.size)(ta:tg a=(0,0))(j:tg b=(0,0))(hi:2<=i)(k:Left s i p B ei tg d c g fs' t' lim):
  c.cell? (eb a 0)=some (.string s0)/\c.cell? (eb a 1)=some (.string s1)/\c.cell? (eb a 2)=some (.string s2)/\c.cell? (eb a 3)=some (.string s3)/\c.cell? (eb a 4)=some (.string s4)/\c.cell? (eb b 0)=some (.string d0)/\c.cell? (eb b 1)=some (.string d1)/\c.cell? (eb b 2)=some (.string d2)/\c.cell? (eb b 3)=some (.string d3)/\c.cell? (eb b 4)=some (.string d4)/\c.cell? (eb B.bt 8)=some (.map (some B.oD)):=by
 obtain⟨n,o,l,m,_,_⟩:=k;exact(gR.kept h (mz.kP hi l) e f ta j).and m.qz.2.2
theorem EZ(h:eH tg w s i p B ei g lim)(hl:lim+1000<1099511627776)(hF:Flat ei t g.ft)(aU:eL ei 5 t)(F:Good (rf.reverse++[nf]))(z:Good (rt.reverse++[nt])):
  eK 72 #[fj B.bt,.agg (et (rf.reverse++[nf])),.agg (et (rt.reverse++[nt]))] w fun j w'=>j=.returned (ed (ra ei t g.fs (nf::rf) (nt::rt)).2.1)/\Left s i p B ei tg w w' g (ra ei t g.fs (nf::rf) (nt::rt)).1 (ra ei t g.fs (nf::rf) (nt::rt)).2.2 (lim+400):=by
 have hS:=h.st.sound;have hi:=h.two;have dy:rf.length<=4:=by have:=F.len;simp at this;omega
 have dz:rt.length<=4:=by have:=z.len;simp at this;omega
 have A:=fun W (aV:gS w W)=>qs (s:=s) (i:=i) (p:=p) (B:=B) (ei:=ei) (nf::rf) tg W g lim (h.below aV) (by omega) (by rw[nC];exact F);rw[nC]at A;obtain⟨f1,f2,f3⟩:=nM hS hF aU g.fs (nf::rf);simp only[f1,f2]at A;have d:ra ei t g.fs (nf::rf) (nt::rt)=if(g5 ei t g.fs (nf::rf)).2.1≠0 then((g5 ei t g.fs (nf::rf)).1,(g5 ei t g.fs (nf::rf)).2.1,t)else if(nf::rf).reverse <+: (nt::rt).reverse/\nf::rf≠nt::rt then((g5 ei t g.fs (nf::rf)).1,9,t) else
   if(kq ei t (g5 ei t g.fs (nf::rf)).1 rt).2.1≠0\/nf::rf=nt::rt then((kq ei t (g5 ei t g.fs (nf::rf)).1 rt).1,(kq ei t (g5 ei t g.fs (nf::rf)).1 rt).2.1,t) else
   if(gX ei (kq ei t (g5 ei t g.fs (nf::rf)).1 rt).1 (decide (rf=rt)) (kq ei t (g5 ei t g.fs (nf::rf)).1 rt).2.2 nt (g5 ei t g.fs (nf::rf)).2.2).2≠0 then((gX ei (kq ei t (g5 ei t g.fs (nf::rf)).1 rt).1 (decide (rf=rt)) (kq ei t (g5 ei t g.fs (nf::rf)).1 rt).2.2 nt (g5 ei t g.fs (nf::rf)).2.2).1,(gX ei (kq ei t (g5 ei t g.fs (nf::rf)).1 rt).1 (decide (rf=rt)) (kq ei t (g5 ei t g.fs (nf::rf)).1 rt).2.2 nt (g5 ei t g.fs (nf::rf)).2.2).2,t) else
   if 5<((rt.length+1:Nat):Int)+H2 ei 5 (g5 ei t g.fs (nf::rf)).2.2 then((gX ei (kq ei t (g5 ei t g.fs (nf::rf)).1 rt).1 (decide (rf=rt)) (kq ei t (g5 ei t g.fs (nf::rf)).1 rt).2.2 nt (g5 ei t g.fs (nf::rf)).2.2).1,11,t) else
   ((gX ei (kq ei t (g5 ei t g.fs (nf::rf)).1 rt).1 (decide (rf=rt)) (kq ei t (g5 ei t g.fs (nf::rf)).1 rt).2.2 nt (g5 ei t g.fs (nf::rf)).2.2).1,0,m1 ei (fun ks=>n7 ks nt (g5 ei t g.fs (nf::rf)).2.2) rt.reverse (m1 ei (fun ks=>lh ks nf) rf.reverse t)):=rfl
 generalize ra ei t g.fs (nf::rf) (nt::rt)=M at d ⊢;have aW:∀{fs':FS} {c:LT},g5 ei t g.fs (nf::rf)=(fs',0,c)->_:=fun {_ _} h=>ux h
 generalize g5 ei t g.fs (nf::rf)=a at A f3 d aW;obtain⟨ab,er,c⟩:=a;simp only at A f3 d;generalize findF ei g.ft g.fs (nf::rf)=ct at A f3;obtain⟨_,_,j,dA,dB⟩:=ct;simp only[List.headD_cons,rN]at A f3;have k:Hid _:=d;have ac:∀W,(Op.equalIn 10000 147 (hP (rf.reverse++[nf])) (hP [])).run prog W=.ok false W:=fun W=>by
  have:=sf F Good.nil W
  rw[m6 (by simp)]at this;exact this
 have ad:∀W,(Op.equalIn 10000 147 (hP (rt.reverse++[nt])) (hP [])).run prog W=.ok false W:=fun W=>by
  have:=sf z Good.nil W
  rw[m6 (by simp)]at this;exact this
 have aA:∀W,(Op.equalIn 10000 147 (hP (rf.reverse++[nf])) (hP (rt.reverse++[nt]))).run prog W=.ok (decide (rf.reverse++[nf]=rt.reverse++[nt])) W:=fun W=>sf F z W;have ae:=fun W=>px W;have aB:=fun W=>vz (rt.reverse++[nt]) (rf.reverse++[nf]) z F W;have af:=fun W=>xr (rt.reverse++[nt]) z W;rw[oy]at af;have aC:=fun W=>j5 (rt.reverse++[nt]) z.val z.len W;obtain⟨s0,s1,s2,s3,s4,aD⟩:∃s0 s1 s2 s3 s4,et (rf.reverse++[nf])=(ii s0 s1 s2 s3 s4):=⟨_,_,_,_,_,rfl⟩;obtain⟨d0,d1,d2,d3,d4,hQ⟩:∃s0 s1 s2 s3 s4,et (rt.reverse++[nt])=(ii s0 s1 s2 s3 s4):=⟨_,_,_,_,_,rfl⟩;obtain⟨dC,dD,dE,dF,dG,aX⟩:∃s0 s1 s2 s3 s4,et rt.reverse=(ii s0 s1 s2 s3 s4):=⟨_,_,_,_,_,rfl⟩;unfold hP at ae ac ad aA aB af aC;simp only[aD,hQ,aX]at ac ad aA A aB af aC;rw[aD,hQ];unfold et at ae ac ad;simp only[k8]at ae ac ad;have P:Hid _:=And.intro aD (And.intro hQ aX);have bz:Hid _:=h;have q:Hid _:=hF;have u:Hid _:=aU;have bA:Hid (Sound ei):=hS;have cu:Hid _:=A;have cv:Hid (∀{cw:FS} {cx:LT},(ab,er,c)=(cw,0,cx)->_):=aW;have cy:Hid _:=f3;have G:Hid _:=And.intro F z;have bB:Hid _:=aA;have bC:Hid _:=aB;have cz:Hid _:=af;have cA:Hid _:=aC;obtain⟨x,bD,bE,bF⟩:=Bo w s0 s1 s2 s3 s4 d0 d1 d2 d3 d4;have f:=i7 ((w.alloc (.cells (ii s0 s1 s2 s3 s4) 147)).alloc (.cells (ii d0 d1 d2 d3 d4) 147)).drew.heap.size ((w.alloc (.cells (ii s0 s1 s2 s3 s4) 147)).alloc (.cells (ii d0 d1 d2 d3 d4) 147)).drew;have aE:Hid _:=And.intro bD (And.intro bE bF);clear h hF aU hS aD hQ aX A aW F z d f1 f2 f3 aA aB af aC bD bE bF;go_enter func72,ntmps72;go_wp2
 go_region_held3 (fun w'=>w'.cell? (eb w.heap.size 0)=some (.string s0)/\w'.cell? (eb w.heap.size 1)=some (.string s1)/\w'.cell? (eb w.heap.size 2)=some (.string s2)/\w'.cell? (eb w.heap.size 3)=some (.string s3)/\w'.cell? (eb w.heap.size 4)=some (.string s4)/\w'.cell? (eb (w.heap.size+1) 0)=some (.string d0)/\w'.cell? (eb (w.heap.size+1) 1)=some (.string d1)/\w'.cell? (eb (w.heap.size+1) 2)=some (.string d2)/\w'.cell? (eb (w.heap.size+1) 3)=some (.string d3)/\w'.cell? (eb (w.heap.size+1) 4)=some (.string d4)) (first|exact x|exact aY) (first|(go_at_call 75;refine(ae _).mono ?_;rintro e aF ⟨rfl,cB⟩;replace f:=em f cB;have aY:=x.below f aE.out.1 aE.out.2.1))
 have bG:gS w aF:=em aE.out.2.2 f;have aG:w.heap.size+1<aF.heap.size:=kv aE.out.2.1 f.size;have bH:w.heap.size<aF.heap.size:=Di aG;have t0:tg w.heap.size=(0,0):=bz.out.st.fresh _ (io _);have t1:tg (w.heap.size+1)=(0,0):=bz.out.st.fresh _ (Hk _);have cC:Hid _:=aY;obtain⟨l,a1,a2,a3,m,c0,c1,c2,c3,c4⟩:=aY;clear x f ae ac ad;go_wp2_with fail;refine g7 (cu.out aF bG) ?_;rintro e w3 ⟨rfl,NH⟩;obtain⟨aH,ag,bI⟩:=NH.out;have aZ:=mz.kP hi ag;have a0:Hid _:=gR.kept cC.out aZ bH aG t0 t1;have ah:w.heap.size+1<w3.heap.size:=kv aG aZ.1;have bJ:w.heap.size<w3.heap.size:=Di ah;have bK:aH w.heap.size=(0,0):=(ag.tags _ bH).trans t0;have t13:aH (w.heap.size+1)=(0,0):=(ag.tags _ aG).trans t1;have a4:Hid _:=jn bG ag;have aI:Hid _:=bI;clear NH ag bI aZ l a1 a2 a3 m c0 c1 c2 c3 c4;obtain⟨l,a1,a2,a3,m,c0,c1,c2,c3,c4⟩:=a0.out;by_cases her:er=0
 ·subst her
  obtain⟨⟨rfl,rfl,rfl⟩,ai⟩:=cy.out rfl;obtain⟨y,C,bL,df,kf,bM,bN,bO⟩:=cv.out rfl;have Q:Hid _:=And.intro y (And.intro bL (And.intro bM (And.intro bN bO)));clear ai y C bL bM bN bO;obtain⟨kc,a5⟩:∃kc,kc=c.kind:=⟨_,rfl⟩;obtain⟨ic,a6⟩:∃ic,ic=c.id:=⟨_,rfl⟩;rw[<-a5,<-a6];have R:Hid _:=And.intro a5 a6;clear a5 a6;have aj:=bC.out;clear bC;by_cases jY:rf.reverse++[j] <+: rt.reverse++[nt]/\rt.reverse++[nt]≠rf.reverse++[j]
  ·rw[jT jY]at aj
   go_wp2_with(go_at_call 140;refine g7 (aj _) ?_;rintro e a7 ⟨rfl,S⟩);go_ret;have d:=k.out;rw[eJ (by simp),fY (by rw[nC,nC];exact⟨jY.1,fun e=>jY.2 (by rw[pS]at e;rw[e.1,e.2])⟩)]at d;subst d;have H:=em ((i7 w3.heap.size w3).alloc (io _) _) S;exact⟨rfl,vy (a4.out.trans (eo.ew H)) ((aI.out.below H).mono (by simp;omega)) q.out u.out⟩
  ·rw[m6 jY]at aj
   have bQ:gS w3 (w3.alloc (.cells #[.string j,ed kc,ed ic] 96)):=(i7 w3.heap.size w3).alloc (io _) _;have a8:w3.heap.size<(w3.alloc (.cells #[.string j,ed kc,ed ic] 96)).heap.size:=by simp
   have cD:Hid _:=LY w3 j kc ic;go_wp2_with(first
    |(go_at_call 140;refine g7 (aj _) ?_;rintro e a7 ⟨rfl,S⟩;have H:=em bQ S;have cE:Hid _:=gR.below a0.out H bJ ah;obtain⟨cF,cG,cH,cI,cJ,cK,cL,cM,cN,cO⟩:=cE.out;have dH:w.heap.size+1<a7.heap.size:=kv ah H.size;have dI:w3.heap.size<a7.heap.size:=kv a8 S.size)
    |(go_at_call 132;refine g7 (cz.out _) ?_;rintro e w5 ⟨rfl,a9⟩;have ak:=em H a9))
   have bb:=em S a9;have cQ:Hid _:=gR.below a0.out ak bJ ah;have cS:Hid _:=qA.keep cD.out (fun o=>(gc bb).1 w3.heap.size o a8);have aJ:w.heap.size+1<w5.heap.size:=kv ah ak.size;have bR:w.heap.size<w5.heap.size:=Di aJ;have bc:w3.heap.size<w5.heap.size:=kv a8 bb.size;have t53:aH w3.heap.size=(0,0):=aI.out.st.fresh _ (io _);have T:=n4 (s:=s) (i:=i) (p:=p) (B:=B) (ei:=ei) rt aH w5 { g with fs:=ab } _ (aI.out.below ak) (by simp;omega) (by have:=G.out.2.dropLast;rwa [oy]at this);rw[jb bA.out q.out u.out ab rt]at T;rw[P.out.2.2]at T;have d:=k.out;rw[eJ (by simp),eJ (by rw[nC,nC];exact fun U=>jY ⟨U.1,fun e=>U.2 (by have al:=List.append_inj_left' e rfl;have bd:=List.append_inj_right' e rfl;rw[Na]at al;rw[al,List.cons.inj bd|>.1])⟩)]at d;have aK:=lq (ei:=ei) (t:=t) (fs:=ab) (r:=rt);generalize kq ei t ab rt=cT at T d aK;obtain⟨bS,bT,ks⟩:=cT;simp only at T d aK;clear k;have k:Hid _:=d;have cU:Hid _:=T;have cV:Hid _:=aK;have cW:Hid _:=a4.out.trans (eo.ew ak);clear d T aK l a1 a2 a3 m c0 c1 c2 c3 c4 cF cG cH cI cJ cK cL cM cN cO S a9 bb H bQ aj ak;refine g7 cU.out ?_;rintro e w6 ⟨v,rfl,aL,am,bU,be⟩;have bf:=am.mono (fun _ h=>h.mine);have an:=mz.kP hi bf;have bV:Hid _:=gR.kept cQ.out an bR aJ bK t13;have bW:Hid _:=qA.keep cS.out (an.2 _ bc t53);have aM:w.heap.size+1<w6.heap.size:=kv aJ an.1;have bX:w.heap.size<w6.heap.size:=Di aM;have bg:w3.heap.size<w6.heap.size:=kv bc an.1;have bY:aL w.heap.size=(0,0):=(am.tags _ bR).trans bK;have t16:aL (w.heap.size+1)=(0,0):=(am.tags _ aJ).trans t13;have bZ:aL w3.heap.size=(0,0):=(am.tags _ bc).trans t53;have bh:Hid _:=cW.out.trans bf;have bi:Hid _:=bU;have cX:Hid (pQ aL w6 i v (ks.map kB)):=be;obtain⟨la,lc,rfl⟩:=be.len;clear am bf an bU be;obtain⟨l,a1,a2,a3,m,c0,c1,c2,c3,c4⟩:=bV.out;obtain⟨I,y,C⟩:=bW.out;by_cases bj:bT=0
   ·subst bj
    obtain⟨⟨dt,ai,bk⟩,b0,b1⟩:=cV.out rfl;have h3:=bB.out;clear bB;by_cases heq:rf.reverse++[j]=rt.reverse++[nt]
    ·rw[jT heq]at h3
     go_wp2;go_ret;have d:=k.out;have al:=List.append_inj_left' heq rfl;have bd:=List.append_inj_right' heq rfl;rw[Na]at al;rw[fY (.inr (by rw[al,(List.cons.inj bd).1]))]at d;subst d;exact⟨rfl,vy bh.out (bi.out.mono (by simp;omega)) q.out u.out⟩
    ·rw[m6 heq]at h3
     have bl:=O3 (c:=c) bi.out (by simp;omega) q.out u.out G.out.1 G.out.2 ai bk cX.out j;rw[P.out.1,P.out.2.1,<-R.out.1,<-R.out.2,kU]at bl;have d:=k.out;rw[eJ (by simp;exact fun cY e2=>heq (by rw[cY,e2]))]at d;have aN:=LX (ei:=ei) (fs:=bS) (b:=decide (rf=rt)) (ks:=ks) (n:=nt) (c:=c);have ao:=bl;clear bl;simp only at ao;generalize gX ei bS (decide (rf=rt)) ks nt c=V at ao d aN;obtain⟨dJ,b2⟩:=V;simp only at ao d aN;clear k;have k:Hid _:=d;have cZ:Hid _:=ao;have c5:Hid _:=aN;have aO:Hid _:=And.intro ai (And.intro bk (And.intro b0 b1));clear d ao aN ai bk b0 b1;go_wp2_with fail;refine g7 cZ.out ?_;rintro e D ⟨rfl,b3⟩;obtain⟨bm,X,b4⟩:=b3.out;have ap:=mz.kP hi X;have J:Hid _:=gR.kept bV.out ap bX aM bY t16;have K:Hid _:=qA.keep bW.out (ap.2 _ bg bZ);have L:w.heap.size+1<D.heap.size:=kv aM ap.1;have aq:w.heap.size<D.heap.size:=Di L;have Y:w3.heap.size<D.heap.size:=kv bg ap.1;have ar:bm w.heap.size=(0,0):=(X.tags _ bX).trans bY;have t17:bm (w.heap.size+1)=(0,0):=(X.tags _ aM).trans t16;have c6:bm w3.heap.size=(0,0):=(X.tags _ bg).trans bZ;have bn:Hid _:=bh.out.trans X;have au:Hid _:=b4;clear b3 X b4 ap l a1 a2 a3 m c0 c1 c2 c3 c4 I y C h3;by_cases bo:b2=0
     ·subst bo
      obtain⟨bp,b5,NE⟩:=c5.out rfl;have bq:=(mf bA.out _ u.out Q.out.1).2.1;have b6:=rz au.out.st.fe 5 c;have b7:=sQ (5-(rf.reverse++[j]).length) 5 c (Nat.sub_le _ _) bq;have b8:(rf.reverse++[j]).length+(5-(rf.reverse++[j]).length)<=5:=by have:=G.out.1.len;omega
      have aP:=HX au.out q.out (5-(rf.reverse++[j]).length) c (rf.reverse++[j]) (Nat.sub_le _ _) bq Q.out.1 G.out.1 b8 j;rw[<-b7,P.out.1,<-R.out.1,<-R.out.2]at aP;have Qa:=cA.out;have b9:((rt.reverse++[nt]).length:Int)=((rt.length+1:Nat):Int):=by simp
      rw[b9]at Qa;have d:=k.out;rw[eJ (by simp)]at d;clear k;have Z:=fun W (aV:gS D W) (U:((rt.length+1:Nat):Int)+H2 ei 5 c<=5)=>CI (au.out.below aV) (by simp;omega) q.out u.out G.out.1 G.out.2 Q.out.2.2.1 Q.out.2.2.2.1 Q.out.2.2.2.2 aO.out.1 aO.out.2.1 ((Q.out.2.1.mono aO.out.2.2.1.2.2.2.2).mono bp.2.2.2.2) (aO.out.2.2.2.mono bp.2.2.2.2) (fun hp=>by
       by_cases e:rt.reverse++[nt]=rf.reverse++[j]
       ·exact heq e.symm
       ·exact jY ⟨hp,e⟩) b5 (fun hn=>(NE hn).imp id (fun e=>by rw[s8 e])) (by rw[zQ];exact U) j
      rw[P.out.1,P.out.2.1,<-R.out.1,<-R.out.2]at Z;have av:Hid _:=And.intro d Z;clear d Z b5 NE bp bq b7 b8 b9;generalize H2 ei 5 c=br at aP b6 av;generalize ca:((rt.length+1:Nat):Int)=aw at Qa av;have c7:1<=aw/\aw<=5:=by omega
      have dK:Hid _:=ca;clear ca;obtain⟨dL,dM⟩:=b6;obtain⟨dN,dO⟩:=c7;have dP:IntKind.i64.wrap (aw+br)=aw+br:=by rw[uP]<;>omega
      have bs:Hid _:=aP;have bt:Hid _:=Qa;clear aP Qa;have x:gR D.drew w.heap.size (w.heap.size+1) s0 s1 s2 s3 s4 d0 d1 d2 d3 d4:=J.out;have bu:qA D.drew w3.heap.size j kc ic:=K.out;have f:gS D D.drew:=eQ (i7 _ _);obtain⟨l,a1,a2,a3,m,c0,c1,c2,c3,c4⟩:=J.out;obtain⟨I,y,C⟩:=K.out;by_cases U:5<aw+br
      ·go_wp2
       go_region_held3 (fun w'=>w'.cell? (eb w.heap.size 0)=some (.string s0)/\w'.cell? (eb w.heap.size 1)=some (.string s1)/\w'.cell? (eb w.heap.size 2)=some (.string s2)/\w'.cell? (eb w.heap.size 3)=some (.string s3)/\w'.cell? (eb w.heap.size 4)=some (.string s4)/\w'.cell? (eb (w.heap.size+1) 0)=some (.string d0)/\w'.cell? (eb (w.heap.size+1) 1)=some (.string d1)/\w'.cell? (eb (w.heap.size+1) 2)=some (.string d2)/\w'.cell? (eb (w.heap.size+1) 3)=some (.string d3)/\w'.cell? (eb (w.heap.size+1) 4)=some (.string d4)/\w'.cell? (eb w3.heap.size 0)=some (.string j)/\w'.cell? (eb w3.heap.size 1)=some (ed kc)/\w'.cell? (eb w3.heap.size 2)=some (ed ic)) (first|exact x.and bu|exact aQ|exact aR) (first
        |(go_at_call 142;refine(bt.out _).mono ?_;rintro e c8 ⟨rfl,aS⟩;replace f:=em f aS;have aQ:=(gR.below J.out f aq L).and (qA.keep K.out (fun o=>(gc f).1 w3.heap.size o Y)))
        |(go_at_call 143;refine(bs.out _ f).mono ?_;rintro e ax ⟨rfl,aT⟩;replace f:=em f aT;have aR:=(gR.below J.out f aq L).and (qA.keep K.out (fun o=>(gc f).1 w3.heap.size o Y))))
       go_wp2;go_ret;have d:=av.out.1;rw[fY U]at d;subst d;exact⟨rfl,vy (bn.out.trans (eo.ew f)) ((au.out.below f).mono (by simp;omega)) q.out u.out⟩
      ·go_wp2
       go_region_held3 (fun w'=>w'.cell? (eb w.heap.size 0)=some (.string s0)/\w'.cell? (eb w.heap.size 1)=some (.string s1)/\w'.cell? (eb w.heap.size 2)=some (.string s2)/\w'.cell? (eb w.heap.size 3)=some (.string s3)/\w'.cell? (eb w.heap.size 4)=some (.string s4)/\w'.cell? (eb (w.heap.size+1) 0)=some (.string d0)/\w'.cell? (eb (w.heap.size+1) 1)=some (.string d1)/\w'.cell? (eb (w.heap.size+1) 2)=some (.string d2)/\w'.cell? (eb (w.heap.size+1) 3)=some (.string d3)/\w'.cell? (eb (w.heap.size+1) 4)=some (.string d4)/\w'.cell? (eb w3.heap.size 0)=some (.string j)/\w'.cell? (eb w3.heap.size 1)=some (ed kc)/\w'.cell? (eb w3.heap.size 2)=some (ed ic)) (first|exact x.and bu|exact aQ|exact aR) (first
        |(go_at_call 142;refine(bt.out _).mono ?_;rintro e c8 ⟨rfl,aS⟩;replace f:=em f aS;have aQ:=(gR.below J.out f aq L).and (qA.keep K.out (fun o=>(gc f).1 w3.heap.size o Y)))
        |(go_at_call 143;refine(bs.out _ f).mono ?_;rintro e ax ⟨rfl,aT⟩;replace f:=em f aT;have aR:=(gR.below J.out f aq L).and (qA.keep K.out (fun o=>(gc f).1 w3.heap.size o Y))))
       obtain⟨d,Z⟩:=av.out;rw[eJ (by omega)]at d;have k:Hid _:=d;have cb:=Z ax f (by omega);have cc:Hid _:=cb;have aa:Hid _:=gR.below J.out f aq L;have cd:Hid _:=qA.keep K.out (fun o=>(gc f).1 w3.heap.size o Y);have c9:Hid _:=bn.out.trans (eo.ew f);have E:w.heap.size+1<ax.heap.size:=kv L f.size;have ay:w.heap.size<ax.heap.size:=Di E;have ce:w3.heap.size<ax.heap.size:=kv Y f.size;clear d Z cb av f aQ aR x bu l a1 a2 a3 m c0 c1 c2 c3 c4 I y C aS aT bs bt;obtain⟨l,a1,a2,a3,m,c0,c1,c2,c3,c4⟩:=aa.out;obtain⟨I,y,C⟩:=cd.out;go_wp2_with fail;refine g7 cc.out ?_;rintro e cf ⟨rfl,az,cg⟩;have da:Hid _:=gR.kept aa.out az ay E ar t17;have db:Hid _:=qA.keep cd.out (az.2 _ ce c6);have ch:Hid _:=cg;have dQ:w.heap.size+1<cf.heap.size:=kv E az.1;have dR:w3.heap.size<cf.heap.size:=kv ce az.1;clear l a1 a2 a3 m c0 c1 c2 c3 c4 I y C cg az cc;obtain⟨l,a1,a2,a3,m,c0,c1,c2,c3,c4⟩:=da.out;obtain⟨I,y,C⟩:=db.out;go_wp2_with fail;refine g7 ch.out ?_;rintro e N ⟨rfl,bv,ci⟩;have cj:Hid (gR N w.heap.size (w.heap.size+1) s0 s1 s2 s3 s4 d0 d1 d2 d3 d4):=gR.kept aa.out bv ay E ar t17;obtain⟨dc,⟨ck,t7,_⟩,cl⟩:=ci N.drew (eQ (i7 _ _));have dd:Hid _:=cl;have x:gR N.drew w.heap.size (w.heap.size+1) s0 s1 s2 s3 s4 d0 d1 d2 d3 d4:=cj.out;have cm:N.drew.cell? (eb B.bt 7)=some (.map (some B.oF)):=t7;clear l a1 a2 a3 m c0 c1 c2 c3 c4 I y C ci cl dc ch;obtain⟨l,a1,a2,a3,m,c0,c1,c2,c3,c4⟩:=cj.out;have de:N.cell? (eb B.bt 7)=some (.map (some B.oF)):=t7;have dg:B.bt<N.heap.size:=ck;have dS:w.heap.size+1<N.heap.size:=kv E bv.1;clear bv;go_wp2
       go_region_held3 (fun w'=>w'.cell? (eb w.heap.size 0)=some (.string s0)/\w'.cell? (eb w.heap.size 1)=some (.string s1)/\w'.cell? (eb w.heap.size 2)=some (.string s2)/\w'.cell? (eb w.heap.size 3)=some (.string s3)/\w'.cell? (eb w.heap.size 4)=some (.string s4)/\w'.cell? (eb (w.heap.size+1) 0)=some (.string d0)/\w'.cell? (eb (w.heap.size+1) 1)=some (.string d1)/\w'.cell? (eb (w.heap.size+1) 2)=some (.string d2)/\w'.cell? (eb (w.heap.size+1) 3)=some (.string d3)/\w'.cell? (eb (w.heap.size+1) 4)=some (.string d4)/\w'.cell? (eb B.bt 7)=some (.map (some B.oF))) (first|exact x.and cm|exact cn) (first
        |(go_at_call 144;refine g7 dd.out ?_;rintro e O ⟨rfl,bw⟩;obtain⟨dh,⟨dT,di,_⟩,_⟩:=bw O (i7 _ _);have cn:=(gR.kept aa.out dh ay E ar t17).and di;have dj:Hid _:=bw;clear bw))
       obtain⟨cp,⟨dk,_,t8⟩,cq⟩:=dj.out O.drew (eQ (i7 _ _));have dl:Hid _:=cq;have cr:gR O.drew w.heap.size (w.heap.size+1) s0 s1 s2 s3 s4 d0 d1 d2 d3 d4:=gR.kept aa.out cp ay E ar t17;have dm:Hid (gR O w.heap.size (w.heap.size+1) s0 s1 s2 s3 s4 d0 d1 d2 d3 d4):=cr;have dn:O.drew.cell? (eb B.bt 8)=some (.map (some B.oD)):=t8;have dU:O.cell? (eb B.bt 8)=some (.map (some B.oD)):=t8;have dV:B.bt<O.heap.size:=dk;clear l a1 a2 a3 m c0 c1 c2 c3 c4 t7 de dg ck x cm cn cq cp;obtain⟨l,a1,a2,a3,m,c0,c1,c2,c3,c4⟩:=dm.out;go_wp2
       go_region_held3 (fun w'=>w'.cell? (eb w.heap.size 0)=some (.string s0)/\w'.cell? (eb w.heap.size 1)=some (.string s1)/\w'.cell? (eb w.heap.size 2)=some (.string s2)/\w'.cell? (eb w.heap.size 3)=some (.string s3)/\w'.cell? (eb w.heap.size 4)=some (.string s4)/\w'.cell? (eb (w.heap.size+1) 0)=some (.string d0)/\w'.cell? (eb (w.heap.size+1) 1)=some (.string d1)/\w'.cell? (eb (w.heap.size+1) 2)=some (.string d2)/\w'.cell? (eb (w.heap.size+1) 3)=some (.string d3)/\w'.cell? (eb (w.heap.size+1) 4)=some (.string d4)/\w'.cell? (eb B.bt 8)=some (.map (some B.oD))) (first|exact cr.and dn|exact dp) (first
        |(go_at_call 145;refine g7 dl.out ?_;rintro e dW ⟨rfl,bx⟩;have dp:=EY aa.out ay E ar t17 hi bx;have dq:Hid _:=bx;clear bx))
       go_wp2;go_ret;have d:=k.out;subst d;refine⟨rfl,?_⟩;obtain⟨dr,ds,du,dv,dw,dx⟩:=dq.out;exact⟨dr,ds,c9.out.trans du,dv.mono (by simp;omega),dw,dx⟩
     ·have dX:(b2==0)=false:=by simpa using bo
      go_wp2;go_ret;have d:=k.out;rw[fY bo]at d;subst d;exact⟨rfl,vy bn.out (au.out.mono (by simp;omega)) q.out u.out⟩
   ·have dY:(bT==0)=false:=by simpa using bj
    go_wp2;go_ret;have d:=k.out;rw[fY (.inl bj)]at d;subst d;exact⟨rfl,vy bh.out (bi.out.mono (by simp;omega)) q.out u.out⟩
 ·have dZ:(er==0)=false:=by simpa using her
  go_wp2;go_ret;have d:=k.out;rw[fY her]at d;subst d;exact⟨rfl,vy (a4.out.trans (eo.ew ((i7 w3.heap.size w3).alloc (io _) _))) ((aI.out.below ((i7 w3.heap.size w3).alloc (io _) _)).mono (by simp;omega)) q.out u.out⟩
end
def m8 {a:Type}(f:Nat->a)(k:Nat)(v:a):Nat->a:=fun x=>if x=k then v else f x
theorem il{a:Type}(f:Nat->a)(k:Nat)(v:a):m8 f k v k=v:=by unfold m8;rw[fY rfl]
theorem ik{a:Type}{f:Nat->a}{k x:Nat}(h:x≠k)(v:a):m8 f k v x=f x:=by unfold m8;rw[eJ h]
def qB (ei:List Ob)(fl:Nat->Option (Int×eu)):Prop:=∀f id d,fl f=some (id,d)->id≠0->eC ei id=1
theorem LZ(W:World):(convert 204 9 (.slice none 0 0)).run prog W=.ok (.string fy) W:=by kernel_rfl
section
variable {s i p:Nat}{B:WB}{ei:List Ob}
theorem lR(h:eH tg w s i p B ei g lim)(hl:lim<1099511627776)(k:qB ei g.fl)(hf:g.fl f=some x):
  eK 181 #[fj f] w fun e w'=>e=.returned (.tuple #[.string (po ei g.fl g.fs f).2.2,ed (po ei g.fl g.fs f).2.1])/\iq s i p B ei tg w w' { g with fs:=(po ei g.fl g.fs f).1 } (lim+1):=by
 obtain⟨id,d⟩:=x;obtain⟨ht,a,hd⟩:=h.wp.files f id d hf;have b:po ei g.fl g.fs f=if id=0 then(g.fs,0,d)else if(g.fs.fA id).2 then((g.fs.fA id).1,0,bytesOf ei id) else((g.fs.fA id).1,14,fy):=by
  unfold po;rw[hf]
 have l:=(lF.1 a).1;have c1:w.cell? (eb f 1)=some (ed id):=by simp[World.cell?,a]
 by_cases hid:id=0
 ·rw[b,fY hid]
  subst hid;have c2:w.cell? (eb f 2)=some (.string d):=by simp[World.cell?,a]
  exact(Lk f d w c1 c2).mono fun e w' ⟨h1,h2⟩=>⟨h1,by rw[h2];exact lQ (h.mono (Hk _)) (i7 _ _)⟩
 ·rw[b,eJ hid]
  have c0:w.cell? (eb f 0)=some (fj B.sF):=by simp[World.cell?,a,hid]
  have c:gS w w.drew:=eQ (i7 _ _);have m:=OE (h.below c) hl (k f id d hf hid);refine(Ll f B.sF id (if(g.fs.fA id).2 then 0 else 14) (if(g.fs.fA id).2 then bytesOf ei id else fy) (fun w'=>iq s i p B ei tg w w' { g with fs:=(g.fs.fA id).1 } (lim+1)) w l c0 c1 hid (m.mono fun e w' ⟨h1,h2⟩=>⟨h1,iq.via c h2⟩)).mono fun e w' ⟨h1,h2⟩=>?_;cases j:(g.fs.fA id).2 with
  |true=>rw[j]at h1;exact⟨h1,h2⟩
  |false=>rw[j]at h1;exact⟨h1,h2⟩
theorem Ak{x y z:Value}{t:fL}(h:w.heap[f]?=some (.cells #[x,y,z] t (0,0)))(d:eu):(iI w f d).heap[f]?=some (.cells #[.pointer none,ed 0,.string d] t (0,0)):=by
 unfold iI;have h1:=Nh w f 0 _ t (.pointer none) h;have h2:=Nh _ f 1 _ t (ed 0) h1;have h3:=Nh _ f 2 _ t (.string d) h2;simpa using h3
theorem rY(w:World)(f:Nat)(d:eu):w.grownBy (iI w f d) (some f):=by
 unfold iI;exact lj (lj (lj (pp w _)))
theorem CJ(w:World)(f:Nat)(d:eu):(iI w f d).heap.size=w.heap.size:=by unfold iI;simp
theorem eH.y6(h:eH tg w s i p B ei g lim)(hf:g.fl f=some x){d:eu}(hd:d.size<=256):
  eo (fun t=>t=(i,6)) tg tg w (iI w f d)/\eH tg (iI w f d) s i p B ei { g with fl:=m8 g.fl f (some (0,d)) } lim:=by
 have hi:=h.two;obtain⟨id,d0⟩:=x;obtain⟨ht,n,_⟩:=h.wp.files f id d0 hf;have m:eo (fun t=>t=(i,6)) tg tg w (iI w f d):=rx (rY w f d) (CJ w f d) ht;have hp:=h.wp;have hsome:∀f',(∃x,g.fl f'=some x)->∃x,m8 g.fl f (some (0,d)) f'=some x:=fun f' ⟨x,hx⟩=>by
  by_cases e:f'=f
  ·subst e;exact⟨_,il _ _ _⟩
  ·exact⟨x,by rw[ik e];exact hx⟩
 refine⟨m,h.two,h.st.moves m (fun e=>by cases e) (fun e=>by cases e),⟨hp.tree.moves m (fun e=>by cases e),hp.jE.moves m (fun e=>by cases e),hp.jF.moves m (fun e=>by cases e),hp.nY.moves m (fun e=>by cases e),?_,fun f' c j l=>?_,fun q f' hq=>hsome f' (hp.held q f' hq),?_,hp.ok⟩⟩
 ·obtain⟨vD,hD⟩:=hp.kX
  exact⟨vD,hD.moves m (fun e=>by cases e)⟩
 ·by_cases e:f'=f
  ·subst e
   have a:m8 g.fl f' (some (0,d)) f'=some (c,j):=l;rw[il]at a;cases a;refine⟨ht,?_,hd⟩;rw[fY rfl];exact Ak n d
  ·have a:m8 g.fl f (some (0,d)) f'=some (c,j):=l
   rw[ik e]at a;obtain⟨a1,a2,a3⟩:=hp.files f' c j a;refine⟨a1,?_,a3⟩;rw[(rY w f d).block f' (lF.1 a2).1 (fun o=>e (by cases o;rfl))];exact a2
 ·have ho:=hp.opens.moves m (fun e=>by cases e) (fun e=>by cases e)
  exact⟨ho.tw,ho.hw,ho.past,fun k b f' fg pl hk=>by
   obtain⟨a1,a2,a3,r⟩:=ho.at_ k b f' fg pl hk;exact⟨a1,a2,hsome f' a3,r⟩,ho.inj⟩
theorem vA(h:eH tg w s i p B ei g lim)(hf:g.fl f=some x):
  eK 179 #[fj f] w fun e w'=>e=.returned (.tuple #[])/\eo (fun t=>t=(i,6)) tg tg w w'/\eH tg w' s i p B ei { g with fl:=m8 g.fl f (some (0,fy)) } lim:=by
 obtain⟨id,d0⟩:=x;obtain⟨ht,a,_⟩:=h.wp.files f id d0 hf;refine(Ho f _ _ _ w (lF.1 a).1 (by simp[World.cell?,a];rfl) (by simp[World.cell?,a];rfl) (by simp[World.cell?,a];rfl) (fun o=>by simp[World.frozen?,a]) (LZ w)).mono fun e w' ⟨h1,h2⟩=>⟨h1,?_⟩;rw[h2];exact h.y6 hf (by simp[ByteArray.size])
theorem Bp{P:Nat×Nat->Prop}(o:Obj)(t:Nat×Nat):eo P tg (gY tg w.heap.size t) w (w.alloc o):=by
 have a:gS w (w.alloc o):=(i7 _ _).alloc (io _) _;refine⟨a.os,a.tape,a.output,a.size,fun k hk=>jh (by omega) _,fun k hk _=>a.block k hk,fun hf k hk=>?_⟩;rw[pL]at hk;rw[jh (by omega)];exact hf k (by omega)
theorem eH.E0(h:eH tg w s i p B ei g lim)(id:Int):
  eo (fun _=>False) tg (gY tg w.heap.size (i,6)) w (w.alloc (.cells #[.pointer (if id=0 then none else some (eb B.sF 0)),ed id,.string fy] 308))/\
  eH (gY tg w.heap.size (i,6)) (w.alloc (.cells #[.pointer (if id=0 then none else some (eb B.sF 0)),ed id,.string fy] 308)) s i p B ei { g with fl:=m8 g.fl w.heap.size (some (id,fy)) } lim:=by
 have m:eo (fun _=>False) tg (gY tg w.heap.size (i,6)) w (w.alloc (.cells #[.pointer (if id=0 then none else some (eb B.sF 0)),ed id,.string fy] 308)):=Bp _ _;have hp:=h.wp;have hW:=hp.moves m (fun _ x=>x);have hsome:∀f',(∃x,g.fl f'=some x)->∃x,m8 g.fl w.heap.size (some (id,fy)) f'=some x:=fun f' ⟨x,hx⟩=>by
  by_cases e:f'=w.heap.size
  ·subst e;exact⟨_,il _ _ _⟩
  ·exact⟨x,by rw[ik e];exact hx⟩
 refine⟨m,h.two,h.st.moves m (fun x=>x) (fun x=>x),⟨hW.tree,hW.jE,hW.jF,hW.nY,hW.kX,fun f' c d f=>?_,fun q f' hq=>hsome f' (hp.held q f' hq),⟨hW.opens.tw,hW.opens.hw,hW.opens.past,fun k b f' fg pl hk=>?_,hW.opens.inj⟩,hW.ok⟩⟩
 ·by_cases e:f'=w.heap.size
  ·subst e
   have a:m8 g.fl w.heap.size (some (id,fy)) w.heap.size=some (c,d):=f;rw[il]at a;cases a;exact⟨oP _ _ _,pM w _,by simp[ByteArray.size]⟩
  ·have a:m8 g.fl w.heap.size (some (id,fy)) f'=some (c,d):=f
   rw[ik e]at a;exact hW.files f' c d a
 ·obtain⟨a1,a2,a3,j⟩:=hW.opens.at_ k b f' fg pl hk
  exact⟨a1,a2,hsome f' a3,j⟩
theorem eH.Bq(h:eH tg w s i p B ei g lim)(hl:lim<maxLen)(hq:Good q)(hf:g.fl f=some x):
  ∃w',(Instr.mapUpdate 161 (.map (some B.oF)) (.agg (et q)) (fj f)).run prog w=.ok () w'/\eo (fun t=>t=(i,4)) tg tg w w'/\eH tg w' s i p B ei { g with ft:={ g.ft with of:=upd g.ft.of q (some f) } } (lim+1):=by
 have hi:=h.two;obtain⟨ht,⟨n,hn,hm⟩,hg⟩:=h.wp.nY;obtain⟨w',a,b,c,hs⟩:=hm.store hq (by omega) underlying161 (fj f);have m:eo (fun t=>t=(i,4)) tg tg w w':=rx c hs ht;have hp:=(h.mono (Hk lim)).wp;obtain⟨vD,hD⟩:=hp.kX;refine⟨w',a,m,h.two,(h.st.mono (Hk lim)).moves m (fun e=>by cases e) (fun e=>by cases e),⟨hp.tree.moves m (fun e=>by cases e),hp.jE.moves m (fun e=>by cases e),hp.jF.moves m (fun e=>by cases e),⟨ht,⟨n+1,by omega,b.congr (fun x hx=>?_)⟩,fun x f hx=>?_⟩,⟨vD,hD.moves m (fun e=>by cases e)⟩,hp.files.moves m (fun e=>by cases e),fun x f' hx=>?_,hp.opens.moves m (fun e=>by cases e) (fun e=>by cases e),⟨hp.ok.root,hp.ok.od⟩⟩⟩
 ·show upd (fun y=>(g.ft.of y).map ptr) q (some _) x=Option.map ptr (upd g.ft.of q (some f) x)
  by_cases e:x=q
  ·subst e;rw[upd_same,upd_same];rfl
  ·rw[fx e,fx e]
 ·by_cases e:x=q
  ·rw[e];exact hq
  ·have kN:upd g.ft.of q _ x=some f:=hx
   rw[fx e]at kN;exact hg x f kN
 ·by_cases e:x=q
  ·subst e
   have kN:upd g.ft.of x (some f) x=some f':=hx;rw[upd_same]at kN;cases kN;exact⟨_,hf⟩
  ·have kN:upd g.ft.of q _ x=some f':=hx
   rw[fx e]at kN;exact hp.held x f' kN
theorem wL(h:k<8):k=0\/k=1\/k=2\/k=3\/k=4\/k=5\/k=6\/k=7:=by omega
theorem rj.tab{fl:Nat->Option (Int×eu)}(h:rj tg w i B fl op):jg w B.wb (fun k=>(op k).map (·.1))/\w.cell? (eb B.wb 0)=some (ptr B.bt):=by
 have hw:=h.hw;refine⟨⟨(lF.1 hw).1,fun k hk=>?_,fun o=>by simp[World.frozen?,hw]⟩,by simp[World.cell?,hw]⟩;rcases wL hk with rfl|rfl|rfl|rfl|rfl|rfl|rfl|rfl<;>simp[World.cell?,hw,uo,Function.comp_def]
theorem JI{a:Nat}{x:Value}{t:fL}(h:w.heap[a]?=some (.cells #[x,uo (op 0),uo (op 1),uo (op 2),uo (op 3),uo (op 4),uo (op 5),uo (op 6),uo (op 7)] t (0,0)))(hk:k<8)(v:Option (Nat×Nat×Int×Int)):
  (w.setCell (eb a (1+k)) (uo v)).heap[a]?=some (.cells #[x,uo (m8 op k v 0),uo (m8 op k v 1),uo (m8 op k v 2),uo (m8 op k v 3),uo (m8 op k v 4),uo (m8 op k v 5),uo (m8 op k v 6),uo (m8 op k v 7)] t (0,0)):=by
 rw[Nh w a (1+k) _ t (uo v) h];rcases wL hk with rfl|rfl|rfl|rfl|rfl|rfl|rfl|rfl<;>simp[m8]
theorem eH.close(h:eH tg w s i p B ei g lim)(hk:k<8):
  eo (fun t=>t=(i,0)) tg tg w (w.setCell (eb B.wb (1+k)) (.pointer none))/\eH tg (w.setCell (eb B.wb (1+k)) (.pointer none)) s i p B ei { g with op:=m8 g.op k none } lim:=by
 have hi:=h.two;have hp:=h.wp;have c:w.grownBy (w.setCell (eb B.wb (1+k)) (.pointer none)) (some B.wb):=lj (pp w _);have m:eo (fun t=>t=(i,0)) tg tg w (w.setCell (eb B.wb (1+k)) (.pointer none)):=rx c (by simp) hp.opens.tw;have a:∀j x,m8 g.op k none j=some x->j≠k/\g.op j=some x:=fun j x hj=>by
  by_cases e:j=k
  ·subst e;rw[il]at hj;cases hj
  ·rw[ik e]at hj;exact⟨e,hj⟩
 obtain⟨vD,hD⟩:=hp.kX;refine⟨m,h.two,h.st.moves m (fun e=>by cases e;omega) (fun e=>by cases e),⟨hp.tree.moves m (fun e=>by cases e),hp.jE.moves m (fun e=>by cases e),hp.jF.moves m (fun e=>by cases e),hp.nY.moves m (fun e=>by cases e),⟨vD,hD.moves m (fun e=>by cases e)⟩,hp.files.moves m (fun e=>by cases e),hp.held,⟨hp.opens.tw,JI hp.opens.hw hk none,fun j hj=>?_,fun j b f fg pl hj=>?_,fun j l x y hj hl e=>hp.opens.inj j l x y (a j x hj).2 (a l y hl).2 e⟩,hp.ok⟩⟩
 ·show m8 g.op k none j=none
  rw[ik (by omega)];exact hp.opens.past j hj
 ·obtain⟨e,h1⟩:=a j _ hj
  obtain⟨a1,a2,a3⟩:=hp.opens.at_ j b f fg pl h1;obtain⟨d,n⟩:=m.at a2 a1 (fun e=>by cases e);exact⟨n,d,a3⟩
theorem eH.place(h:eH tg w s i p B ei g lim){fg pl Ga:Int}(hk:g.op k=some (b,f,fg,pl))(h0:0<=Ga)(h1:Ga<=256):
  eo (fun t=>t=(i,7)) tg tg w (w.setCell (eb b 2) (ed Ga))/\eH tg (w.setCell (eb b 2) (ed Ga)) s i p B ei { g with op:=m8 g.op k (some (b,f,fg,Ga)) } lim:=by
 have hi:=h.two;have hp:=h.wp;obtain⟨ht,u,v,z,A,_⟩:=hp.opens.at_ k b f fg pl hk;have r:w.grownBy (w.setCell (eb b 2) (ed Ga)) (some b):=lj (pp w _);have m:eo (fun t=>t=(i,7)) tg tg w (w.setCell (eb b 2) (ed Ga)):=rx r (by simp) ht;obtain⟨vD,hD⟩:=hp.kX;have C:∀j,uo (m8 g.op k (some (b,f,fg,Ga)) j)=uo (g.op j):=fun j=>by
  by_cases e:j=k
  ·subst e;rw[il,hk];rfl
  ·rw[ik e]
 have hw:=(m.at hp.opens.hw hp.opens.tw (fun e=>by cases e)).1;refine⟨m,h.two,h.st.moves m (fun e=>by cases e) (fun e=>by cases e),⟨hp.tree.moves m (fun e=>by cases e),hp.jE.moves m (fun e=>by cases e),hp.jF.moves m (fun e=>by cases e),hp.nY.moves m (fun e=>by cases e),⟨vD,hD.moves m (fun e=>by cases e)⟩,hp.files.moves m (fun e=>by cases e),hp.held,⟨hp.opens.tw,?_,fun j hj=>?_,fun j c f' n o hj=>?_,fun j l x y hj hl e=>?_⟩,hp.ok⟩⟩
 ·simp only[C];exact hw
 ·show m8 g.op k _ j=none
  have hne:j≠k:=fun e=>by rw[<-e,hp.opens.past j hj]at hk;cases hk
  rw[ik hne];exact hp.opens.past j hj
 ·by_cases e:j=k
  ·subst e
   have a:m8 g.op j (some (b,f,fg,Ga)) j=some (c,f',n,o):=hj;rw[il]at a;cases a;refine⟨ht,?_,v,z,A,h0,h1⟩
   have:=Nh w b 2 _ 277 (ed Ga) u
   simpa using this
  ·have a:m8 g.op k _ j=some (c,f',n,o):=hj
   rw[ik e]at a;obtain⟨a1,a2,a3⟩:=hp.opens.at_ j c f' n o a;refine⟨a1,?_,a3⟩;have hne:c≠b:=fun q=>e (hp.opens.inj j k _ _ a hk q)
   rw[r.block c (lF.1 a2).1 (fun q=>hne (by cases q;rfl))];exact a2
 ·have key:∀j x,m8 g.op k (some (b,f,fg,Ga)) j=some x->∃d,g.op j=some d/\d.1=x.1:=fun j x hj=>by
   by_cases e:j=k
   ·subst e;rw[il]at hj;cases hj;exact⟨_,hk,rfl⟩
   ·rw[ik e]at hj;exact⟨x,hj,rfl⟩
  obtain⟨d,a1,a2⟩:=key j x hj;obtain⟨D,E,F⟩:=key l y hl;exact hp.opens.inj j l d D a1 E (by rw[a2,F,e])
theorem eH.Ro(h:eH tg w s i p B ei g lim)(hk:k<8)(hf:g.fl f=some x)(h0:0<=fg)(h1:fg<64):
  eo (fun t=>t=(i,0)) tg (gY tg w.heap.size (i,7)) w ((w.setCell (eb B.wb (1+k)) (fj w.heap.size)).alloc (.cells #[fj f,ed fg,ed 0] 277))/\
  eH (gY tg w.heap.size (i,7)) ((w.setCell (eb B.wb (1+k)) (fj w.heap.size)).alloc (.cells #[fj f,ed fg,ed 0] 277)) s i p B ei { g with op:=m8 g.op k (some (w.heap.size,f,fg,0)) } lim:=by
 have hi:=h.two;have hp:=h.wp;have v:w.grownBy (w.setCell (eb B.wb (1+k)) (fj w.heap.size)) (some B.wb):=lj (pp w _);have n:(w.setCell (eb B.wb (1+k)) (fj w.heap.size)).heap.size=w.heap.size:=by simp
 have z:eo (fun t=>t=(i,0)) tg tg w (w.setCell (eb B.wb (1+k)) (fj w.heap.size)):=rx v n hp.opens.tw;have A:eo (fun t=>t=(i,0)) tg (gY tg w.heap.size (i,7)) (w.setCell (eb B.wb (1+k)) (fj w.heap.size)) ((w.setCell (eb B.wb (1+k)) (fj w.heap.size)).alloc (.cells #[fj f,ed fg,ed 0] 277)):=by
  have:=Bp (P:=fun t=>t=(i,0)) (tg:=tg) (w:=w.setCell (eb B.wb (1+k)) (fj w.heap.size)) (.cells #[fj f,ed fg,ed 0] 277) (i,7)
  rwa [n]at this
 have m:=z.trans A;have C:((w.setCell (eb B.wb (1+k)) (fj w.heap.size)).alloc (.cells #[fj f,ed fg,ed 0] 277)).heap[w.heap.size]?=some (.cells #[fj f,ed fg,ed 0] 277 (0,0)):=by
  have:=pM (w.setCell (eb B.wb (1+k)) (fj w.heap.size)) (.cells #[fj f,ed fg,ed 0] 277)
  rwa [n]at this
 have r:=(lF.1 hp.opens.hw).1;obtain⟨vD,hD⟩:=hp.kX;have u:∀j x,g.op j=some x->x.1<w.heap.size:=fun j x hj=>by
  obtain⟨a,f',b,Ga⟩:=x;exact(lF.1 (hp.opens.at_ j a f' b Ga hj).2.1).1
 refine⟨m,h.two,h.st.moves m (fun e=>by cases e;omega) (fun e=>by cases e),⟨hp.tree.moves m (fun e=>by cases e),hp.jE.moves m (fun e=>by cases e),hp.jF.moves m (fun e=>by cases e),hp.nY.moves m (fun e=>by cases e),⟨vD,hD.moves m (fun e=>by cases e)⟩,hp.files.moves m (fun e=>by cases e),hp.held,⟨?_,?_,fun j hj=>?_,fun j a f' b q hj=>?_,fun j l x y hj hl e=>?_⟩,hp.ok⟩⟩
 ·exact(m.tags _ r).trans hp.opens.tw
 ·have D:=JI hp.opens.hw hk (some (w.heap.size,f,fg,0))
  rw[<-D];exact((i7 _ _).alloc (io _) _:Below (w.setCell (eb B.wb (1+k)) (fj w.heap.size)).heap.size _ _).block B.wb (by rw[n];exact r)
 ·show m8 g.op k _ j=none
  rw[ik (by omega)];exact hp.opens.past j hj
 ·by_cases e:j=k
  ·subst e
   have c:m8 g.op j (some (w.heap.size,f,fg,0)) j=some (a,f',b,q):=hj;rw[il]at c;cases c;exact⟨oP _ _ _,C,⟨_,hf⟩,h0,h1,pT _,by decide⟩
  ·have c:m8 g.op k _ j=some (a,f',b,q):=hj
   rw[ik e]at c;obtain⟨a1,a2,a3⟩:=hp.opens.at_ j a f' b q c;obtain⟨o,d⟩:=m.at a2 a1 (fun e=>by cases e);exact⟨d,o,a3⟩
 ·have key:∀j x,m8 g.op k (some (w.heap.size,f,fg,0)) j=some x->(j=k/\x.1=w.heap.size)\/(j≠k/\g.op j=some x):=fun j x hj=>by
   by_cases e:j=k
   ·subst e;rw[il]at hj;cases hj;exact .inl ⟨rfl,rfl⟩
   ·rw[ik e]at hj;exact .inr ⟨e,hj⟩
  rcases key j x hj with⟨a1,a2⟩|⟨a1,a2⟩<;>rcases key l y hl with⟨o,d⟩|⟨o,d⟩
  ·rw[a1,o]
  ·have:=u l y d;omega
  ·have:=u j x a2;omega
  ·exact hp.opens.inj j l x y a2 d e
theorem yL.look_ok{of:eB->Option Nat}(h:yL tg w i B of lim)(hq:Good q){W:World}(b:gS w W):
  (Instr.lookup 161 (.map (some B.oF)) (.agg (et q)) true).run prog W=.ok (.tuple #[((of q).map ptr).getD (.pointer none),.bool (of q).isSome]) W:=by
 obtain⟨_,⟨n,_,M,a,c,_⟩,_⟩:=h
 have:=(a.keep (w':=W) (b.block _ a.lt)).look_ok rO underlying161 (HQ W) (wF hq)
 have d:M (jo prog q)=(of q).map ptr:=c q hq;rw[d]at this;rw[this];cases of q<;>rfl
theorem L0(h:eH tg w s i p B ei g lim)(hq:Good q)(hf:g.ft.of q=some f):
  eK 178 #[fj B.bt,.agg (et q)] w fun b w'=>b=.returned (fj f)/\gS w w':=by
 have a:gS w (w.alloc (.cells (et q) 147)).drew:=eQ ((i7 _ _).alloc (io _) _);have hlk:=h.wp.nY.look_ok hq a;rw[hf]at hlk;obtain⟨e,t7,t8⟩:=h.qz;obtain⟨s0,s1,s2,s3,s4,c⟩:∃s0 s1 s2 s3 s4,et q=(ii s0 s1 s2 s3 s4):=⟨_,_,_,_,_,rfl⟩;rw[c]at hlk a ⊢;simp only[jS,nG,Option.isSome_some,ptr]at hlk;have d:Hid _:=a;clear h a;go_enter func178,ntmps178;go_wp2
 go_region
 all_goals
  go_wp2;go_ret;exact⟨rfl,d.out⟩
theorem O4(hr:eF es)(ht:g9 es n=true){nD:mr es n<es.length}(hk:(es[mr es n]).2.1=1):gy es n=n7 es n (1,0):=by
 rw[yP ht,<-EK hr ht nD,hk]
theorem O5{vD:eB->Value}(h:eH tg w s i p B ei g lim)(hD:eZ tg w i B g.ft.od lim vD)(hl:lim<maxLen)(hp:Good (q++[n])){b c d:Nat}(ho:g.ft.od q=some es)(hv:vD q=.slice (some (eb b 0)) es.length c)(ht:g9 es n=true)(t:mr es n=d)(hk:∀e∈es,e.1=n->e.2.1=1)(hid:id≠0):
  ∃a l,(Instr.mapUpdate 161 (.map (some B.oF)) (.agg (et (q++[n]))) (fj w.heap.size)).run prog ((w.alloc (.cells #[fj B.sF,ed id,.string fy] 308)).setCell (eb b (d*3+2)) (ed 0)).drew=.ok () a/\eo (Mine i) tg l w a/\
   eH l a s i p B ei { g with ft:={ g.ft with od:=upd g.ft.od q (some (n7 es n (1,0))),of:=upd g.ft.of (q++[n]) (some w.heap.size) },fl:=m8 g.fl w.heap.size (some (id,fy)) } (lim+1):=by
 obtain⟨j,m⟩:=h.E0 id;rw[eJ hid]at j m;have u:=hD.moves j (fun x=>x);obtain⟨k,D,o⟩:=Bg m u ho hv ht;have v:=h.eR ho;obtain⟨nD,y⟩:=kO ht;rw[t]at k o;rw[O4 v.rising ht (nD:=nD) (hk _ (iF nD) y)]at k;have r:Below ((w.alloc (.cells #[fj B.sF,ed id,.string fy] 308)).setCell (eb b (d*3+2)) (ed 0)).heap.size _ ((w.alloc (.cells #[fj B.sF,ed id,.string fy] 308)).setCell (eb b (d*3+2)) (ed 0)).drew:=eQ (i7 _ _);obtain⟨a,z,A,C⟩:=(k.below r).Bq hl hp (f:=w.heap.size) (x:=(id,fy)) (il _ _ _);exact⟨a,_,z,(j.mono (fun _ x=>x.elim)).trans ((o.mono Sr).trans ((eo.ew r).trans (A.mono O2))),C⟩
theorem L1(h:eH tg w s i p B ei g lim)(hl:lim+300<1099511627776)(hF:Flat ei t g.ft)(u:eL ei 5 t)(hp:Good (q++[n]))(l:t.at ei q=some d)(hk:kids ei d=some ks)(Q:fC ei t g.fs q)(m:g8 ks n=some (.file id)):
  eK 178 #[fj B.bt,.agg (et (q++[n]))] w fun aG w'=>∃f ey iM,aG=.returned (fj f)/\w.heap.size<=f/\eo (Mine i) tg ey w w'/\
   eH ey w' s i p B ei { g with ft:=iM,fl:=m8 g.fl f (some (id,fy)) } (lim+200)/\Flat ei (m1 ei (fun ks=>n7 ks n (.held f)) q t) iM:=by
 have hS:=h.st.sound;have hi:=h.two;have hq:Good q:=by have:=hp.dropLast;rwa [oy]at this
 have br:q.length<=4:=by have:=hp.len;simp at this;omega
 have R:=(mf hS _ u l).2.1;have C:=(jp hS R hk).1;have S:=un hS hF u l hk Q;have D:=gz l hk;have T:jK ei (jJ ei t q):=by rw[D];exact rA hS R hk
 have U:g9 (jJ ei t q) n=true:=by rw[D,xn,<-lr C,m];rfl
 obtain⟨r,af⟩:=CE C m;have V:t.at ei (q++[n])=some (.file id):=by rw[i1,l,my,h9,hk,my,m,my,k0]
 have hid:id≠0:=by
  have hc:=(mf hS _ u V).2.1;have aH:eC ei id=1:=by cases hn:5-(q++[n]).length<;>(rw[hn]at hc;simpa [eL]using hc)
  have:=Cq aH (by decide);omega
 have ag:g.ft.of (q++[n])=none:=by rw[hF.of,V];rfl
 have ah:=fun f=>KJ hS hF u l hk Q m f;obtain⟨aI,aJ,X,aK⟩:=mb S;have E:gS w (w.alloc (.cells (et (q++[n])) 147)).drew:=eQ ((i7 _ _).alloc (io _) _);have hlk:=h.wp.nY.look_ok hp E;rw[ag]at hlk;simp only[Option.map_none,Ql,Option.isSome_none]at hlk;obtain⟨vD,hD⟩:=h.wp.kX;have F:=fun W (G:gS w W)=>n5 (s:=s) (i:=i) (p:=p) (B:=B) (ei:=ei) q.reverse tg W g lim (jJ ei t) vD (h.below G) (hD.moves (eo.ew (P:=fun _=>False) G) (fun x=>x)) (by rw[zQ];omega) (by rw[nu];exact hq) (by rw[nu];exact S);rw[nu,zQ]at F;have H:=fun W=>xr (q++[n]) hp W;have I:=fun W=>iB (q++[n]) hp (by simp) W;rw[oy]at H;simp only[BQ]at I;obtain⟨s0,s1,s2,s3,s4,J⟩:∃s0 s1 s2 s3 s4,et (q++[n])=(ii s0 s1 s2 s3 s4):=⟨_,_,_,_,_,rfl⟩;obtain⟨bs,bt,bu,bv,bw,Y⟩:∃s0 s1 s2 s3 s4,et q=(ii s0 s1 s2 s3 s4):=⟨_,_,_,_,_,rfl⟩;unfold hP at H I;simp only[J,Y]at H I F hlk E;rw[J];obtain⟨bx,t7,_⟩:=h.qz;have aL:lim+20*(q.length+1)<maxLen:=by unfold maxLen;omega
 rw[D]at T U X;generalize ai:mr (ks.map kB) n=c at r;have aj:(ks.map kB)[c]'r=(n,1,id):=af;have ak:∀e∈ks.map kB,e.1=n->e.2.1=1:=by
  intro e aM aN;obtain⟨x,hx,rfl⟩:=H3.1 aM
  have:=jc C m hx aN
  show x.2.kind=1;rw[this];rfl
 have al:Hid _:=ai;have aO:Hid ((ks.map kB)[c]'r=(n,1,id)):=aj;have aP:Hid _:=ak;have bz:Hid _:=Y;have aQ:Hid _:=J;have bA:Hid _:=h;have aR:Hid _:=F;have Z:Hid _:=X;have am:Hid _:=T;have an:Hid _:=U;have aS:Hid _:=hp;have ao:Hid _:=h.st.fresh;have aT:Hid _:=ah;clear ai h hD F aI aJ X aK T U J Y S hF u l hk Q m ah hS R C D V ag af aj ak hp;go_enter func178,ntmps178;go_wp2
 go_region
 have aU:Hid _:=E;have ap:w.heap.size<(w.alloc (.cells (ii s0 s1 s2 s3 s4) 147)).drew.heap.size:=by simp
 have aV:Hid (oa (w.alloc (.cells (ii s0 s1 s2 s3 s4) 147)).drew w.heap.size s0 s1 s2 s3 s4):=by
  obtain⟨_,aW,v,aX,aY,aZ,_⟩:=oU (pM w (.cells (ii s0 s1 s2 s3 s4) 147));exact⟨aW,v,aX,aY,aZ⟩
 clear E hlk;go_wp2_with(first
  |(go_at_call 132;refine(H _).mono ?_;rintro e a0 ⟨rfl,K⟩;have v:=em aU.out K;have aa:=kv ap K.size;have a4:Hid _:=oa.keep aV.out (fun o=>(gc K).1 w.heap.size o ap)))
 refine g7 (aR.out a0 v) ?_;rintro e w3 ⟨bB,rfl,a5,bC,y,z,ab,aq,a6⟩;have ar:Hid _:=oa.keep a4.out (py (b:=w.heap.size) hi y aa (ao.out _ (io _)));have a7:a5 w.heap.size=(0,0):=(y.tags _ aa).trans (ao.out _ (io _));have au:w.heap.size<w3.heap.size:=kv aa y.size;have k:=ab.row _ _ Z.out;obtain⟨a,bD,ac⟩:=ej k.1 (by omega);rw[ac]at aq k;subst aq;have L:a<w3.heap.size:=ee k.1 rfl;have D1:=yR a7 (k.2 a rfl) (OV i);have bE:=yR z.wp.tree.tt (k.2 a rfl) (Ta i);have av:=z.qz;have aw:w3.cell? (eb B.bt 1)=some (fj B.sF):=by simp[World.cell?,z.wp.tree.ht,ptr]
 have a8:Hid (w3.cell? (eb a (c*3+2))=some (ed id)):=by
  have:=Bh k.1 r
  rw[aO.out]at this;exact this
 have a9:Hid _:=z;have bb:Hid _:=jn v y;have bc:Hid _:=ab;have M:Hid _:=k;have bd:Hid _:=ac;have A:Hid _:=And.intro av aw;have bF:c<ks.length:=by simpa using r
 clear z y ab k ac a6 K v av aw;rw[kU];obtain⟨ax,a1,a2,a3,ay⟩:=ar.out;have ad:=fun W (G:gS w3 W)=>H0 (eh M.out.1 (fun be bf=>G.block be (ee M.out.1 bf))) n am.out.rising am.out.len
 rw[kU]at ad;have bg:Hid _:=ad;clear ad;go_wp2_with(first
  |(go_at_call 134;refine(I _).mono ?_;rintro e bG ⟨rfl,ae⟩)
  |(go_at_call 133;go_loud(refine g7 (bg.out _ ae) ?_;rintro e w5 ⟨rfl,az⟩;rw[al.out,an.out];have j:=em ae az)))
 have N:=eQ j;have bh:w.heap.size<w5.heap.size:=kv au j.size;have bi:B.bt<w5.heap.size:=kv A.out.1.1 j.size;have aA:a<w5.heap.size:=kv L j.size;have bj:Hid (oa w5 w.heap.size s0 s1 s2 s3 s4):=oa.keep ar.out (fun o=>(gc j).1 w.heap.size o au);have d1:w5.cell? (eb B.bt 1)=some (fj B.sF):=((gc j).1 _ _ A.out.1.1).trans A.out.2;have d7:w5.cell? (eb B.bt 7)=some (.map (some B.oF)):=((gc j).1 _ _ A.out.1.1).trans A.out.1.2.1;have aB:w5.cell? (eb a (c*3+2))=some (ed id):=((gc j).1 _ _ L).trans a8.out;have fg:∀o,w5.frozen? (eb a o)=false:=fun o=>((gc j).2 _ _ L).trans (sO M.out.1 o);have bH:∃x,w5.cell? (eb a (c*3))=some x:=⟨_,((gc j).1 _ _ L).trans (yT M.out.1 r).1⟩;obtain⟨bk,bl,O,aC,aD⟩:=O5 (a9.out.below N) (bc.out.moves (eo.ew (P:=fun _=>False) N) (fun x=>x)) aL aS.out Z.out bd.out an.out al.out aP.out hid;rw[aQ.out]at O;have bm:=EE B.sF id w5.drew;have aE:Hid _:=And.intro ((bb.out.trans (eo.ew N)).trans aC) aD;have bn:w.heap.size<=w5.heap.size:=uQ bh;clear ax a1 a2 a3 ay aC aD N ae az;obtain⟨ax,a1,a2,a3,ay⟩:=bj.out;have bo:w5.drew.cell? (eb B.bt 1)=some (fj B.sF)/\w5.drew.cell? (eb a (c*3+2))=some (ed id):=⟨d1,aB⟩;have bp:(w5.drew.alloc (.cells #[fj B.sF,ed id,.string fy] 308)).cell? (eb B.bt 1)=some (fj B.sF)/\(w5.drew.alloc (.cells #[fj B.sF,ed id,.string fy] 308)).cell? (eb a (c*3+2))=some (ed id):=⟨by rw[Qx _ _ _ (by exact bi)];exact d1,by rw[Qx _ _ _ (by exact aA)];exact aB⟩
 go_region_held3 (fun w'=>w'.cell? (eb B.bt 1)=some (fj B.sF)/\w'.cell? (eb a (c*3+2))=some (ed id)) (first|exact bo|exact bp) (first
  |(go_at_call 211;refine g7 bm ?_;rintro e w6 ⟨rfl,rfl⟩))
 have bq:((w5.drew.alloc (.cells #[fj B.sF,ed id,.string fy] 308)).setCell (eb a (c*3+2)) (ed 0)).drew=((w5.setCell (eb a (c*3+2)) (ed 0)).alloc (.cells #[fj B.sF,ed id,.string fy] 308)).drew.drew:=by simp[go_sem,aA]
 rw[bq]at O;replace O:(Instr.mapUpdate 161 (.map (some B.oF)) (.agg (ii s0 s1 s2 s3 s4)) (fj w5.heap.size)).run prog ((w5.setCell (eb a (c*3+2)) (ed 0)).alloc (.cells #[fj B.sF,ed id,.string fy] 308)).drew.drew=.ok () bk:=O;go_wp2
 go_region
 all_goals
  go_wp2;go_ret;exact⟨w5.heap.size,bl,_,rfl,bn,aE.out.1,aE.out.2.mono (by omega),by have aF:=aT.out w5.heap.size;rw[Z.out,nG]at aF;exact aF⟩
theorem E1(bt:Nat)(s0 s1 s2 s3 s4:eu)(m:Int)(w:World)(hm:16<=m):
  eK 177 #[fj bt,.agg (ii s0 s1 s2 s3 s4),ed m] w fun a w'=>a=.returned (.tuple #[.pointer none,ed 11])/\gS w w':=by
 go_enter func177,ntmps177;go_wp2;go_ret2;exact⟨rfl,(i7 _ _).alloc (io _) _⟩
theorem JJ(ei:List Ob)(n f:Nat):eL ei n (.held f):=by cases n<;>simp[eL]
theorem H8(h:eH tg w s i p B ei g lim)(hl:lim+500<1099511627776)(hF:Flat ei t g.ft)(j:eL ei 5 t)(hp:Good (q++[n]))(a:t.at ei q=some d)(hk:kids ei d=some ks)(r:fC ei t g.fs q)(u:g8 ks n=none)(NE:ks.length<16)(m:Int)(hm:m<16):
  eK 177 #[fj B.bt,.agg (et (q++[n])),ed m] w fun O w'=>∃f ey iM,O=.returned (.tuple #[fj f,ed 0])/\w.heap.size<=f/\eo (Mine i) tg ey w w'/\
   eH ey w' s i p B ei { g with ft:=iM,fl:=m8 g.fl f (some (0,fy)) } (lim+200)/\Flat ei (m1 ei (fun ks=>n7 ks n (.held f)) q t) iM:=by
 have hS:=h.st.sound;have hi:=h.two;have v:=(mf hS _ j a).2.1;have E:=(jp hS v hk).1;have F:=un hS hF j a hk r;have k:=gz a hk;have G:jK ei (jJ ei t q):=by rw[k];exact rA hS v hk
 have H:g9 (jJ ei t q) n=false:=by rw[k,xn,<-lr E,u];rfl
 have I:(jJ ei t q).length<16:=by rw[k,kU];exact NE
 have J:=fun f=>D2 hS hF j a hk r u f;obtain⟨vD,hD⟩:=h.wp.kX;have y:=fun W (K:gS w W)=>CC (h.below K) (hD.moves (eo.ew (P:=fun _=>False) K) (fun x=>x)) (by omega) hp F G H I fy 1 0 ⟨.inl rfl,fun hx=>absurd rfl hx⟩;obtain⟨s0,s1,s2,s3,s4,l⟩:∃s0 s1 s2 s3 s4,et (q++[n])=(ii s0 s1 s2 s3 s4):=⟨_,_,_,_,_,rfl⟩;simp only[l]at y;rw[l];have Q:Hid _:=l;have R:Hid _:=y;have S:Hid _:=h.st.fresh;have T:Hid _:=hp;have U:Hid _:=J;have V:lim+150<maxLen:=by unfold maxLen;omega
 clear y J l h hD hF j F k G H I a hk r u hS v E hp;have X:=fun W=>Hl W
 go_enter func177,ntmps177;go_wp2_with fail;refine g7 (R.out _ ((i7 w.heap.size w).alloc (io _) _)) ?_;rintro e c ⟨rfl,ai,aj,o,z,Y⟩;have Z:Hid (oa (w.alloc (.cells (ii s0 s1 s2 s3 s4) 147)) w.heap.size s0 s1 s2 s3 s4):=by
  obtain⟨_,aa,ab,ac,ad,ae,_⟩:=oU (pM w (.cells (ii s0 s1 s2 s3 s4) 147));exact⟨aa,ab,ac,ad,ae⟩
 have af:Hid _:=oa.keep Z.out (py (b:=w.heap.size) hi o (xt _ _) (S.out _ (io _)));have ag:w.heap.size<c.heap.size:=kv (xt _ _) o.size;obtain⟨A,C⟩:=z.E0 0;rw[fY rfl]at A C;have D:Below (c.alloc (.cells #[.pointer none,ed 0,.string fy] 308)).heap.size _ (c.alloc (.cells #[.pointer none,ed 0,.string fy] 308)).drew:=eQ (i7 _ _);obtain⟨ak,ah,L,M⟩:=(C.below D).Bq V T.out (f:=c.heap.size) (x:=(0,fy)) (il _ _ _);rw[Q.out]at ah;have N:Hid _:=And.intro ((jn ((i7 w.heap.size w).alloc (io _) _) o).trans ((A.mono (fun _ x=>x.elim)).trans ((eo.ew D).trans (L.mono O2)))) M;obtain⟨al,t7,_⟩:=z.qz;obtain⟨am,a1,a2,a3,an⟩:=af.out;clear o z Y A C D L M;go_wp2_with(go_at_call 210;refine g7 (X _) ?_;rintro e ao ⟨rfl,rfl⟩)
 go_region
 all_goals
  go_wp2;go_ret2;exact⟨c.heap.size,_,_,rfl,uQ ag,N.out.1,N.out.2.mono (by omega),U.out _⟩
end
end Go.Proofs.YtlgidcmmgohagaaGreat
