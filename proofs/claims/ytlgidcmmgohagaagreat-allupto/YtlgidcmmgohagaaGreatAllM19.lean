/- A part of the proof. -/
import Derived.Test.YtlgidcmmgohagaaGreatAllM18
import Derived.Deep.CutRange
set_option linter.all false
namespace Go.Proofs.YtlgidcmmgohagaaGreat
open Go.RowKit Go.Sort Go.Shelf Go.Proofs.Tryz
open Go.Value renaming slice->fy,string->fA,pointer->fB,tuple->fC,agg->fD,bool->fE
open Go.Ending renaming returned->fF
open Option renaming some->fh,none->fj
open Bool renaming true->fm,false->fo
open Go renaming World->fq,Value->fu
open List renaming length->fv,reverse->fx
open Go.RowKit renaming Hid->fe
set_option maxRecDepth 100000
set_option maxHeartbeats 0
variable {a H:List Ob}{W w J w0 w1 w4 wr:fq}{N N' S dc I n nc ow:Nat}{o:Obj}{d x:fO}{data ds l q:fQ}{c t:LT}{e:fV}{fc:ji}{da na:iD}{g:WG}{D F:Nat->Prop}{f:fQ->Option Int}{rest:gX}{E M:List fV}{b:DB}{T:gC}{Y:Kids}
variable {a A:List Ob}{fc:ji}{t:LT}{E:List fV}{data:fQ}{s i p S nc dc:Nat}{B:WB}{F:Nat->Prop}{w:fq}{na da:iD}{rest:gX}
structure gf (nodes:List fV)(data:fQ):Prop where
 jF:pU nodes
 one:oJ nodes
 few:∀d,fL d->(fU nodes (fG d)).length<=16
 kinds:∀e∈nodes,e.2.1=1\/e.2.1=2
 files:∀e∈nodes,e.2.1=1->0<=e.2.2/\e.2.2<(data.length:Int)
 up:∀l x,fL (l++[x])->gj nodes (l++[x])≠none->∃f,gj nodes l=some (2,f)
theorem Gx(a:fL l)(c:fv l<=5):(fG l).size<=65:=by
 have:=xq l (λx b=>(xj (a x b)).2)<|fv l
 unfold fG;omega
theorem gf.small(a:gf E data):∀e∈E,e.1.size<=65:=λe b=>by
 have⟨l,_,c,d,f⟩:=a.jF e b
 rw[f]
 exact Gx c d
theorem TT(a:∀e∈E,wl e.1 d=fo):fU E d=[]:=by
 grind [fU,List.filter_eq_nil_iff,decide]
theorem gf.fine(b:gf E data)(g:fv E<=1000000000):qE E data:=by
 refine⟨g,λe a=>ww (b.small e a)<|by decide,λd=>?_,b.files⟩;by_cases c:∃e∈E,wl e.1 d=fm;have⟨e,a,U⟩:=c;have⟨l,k,f,_,h⟩:=b.jF e a;unfold wl at U;rw[h,rC f,EI]at U;have i:d=fG (l.take<|fv l-1):=by
  grind [iF,mE]
 rw[i];exact b.few _<|f.take _;rw[TT (λe a=>by cases j:wl e.1 d with|true=>exact absurd ⟨e,a,j⟩ c|false=>rfl)]
 grind
theorem mq(c:gf E data)(d:fL l):(ol E (fG l)=0↔gj E l=fj)/\(ol E (fG l)=2↔∃f,gj E l=fh (2,f))/\(ol E (fG l)=1↔∃f,gj E l=fh (1,f)):=by
 rw[Zj d];cases a:gj E l with
 |none=>simp
 |some g=>
  have⟨k,f⟩:=g;have i:k=1\/k=2:=by
   by_cases h:l=[]
   grind [gj]
   rw[nh h]at a;rcases b:E.find? (λe=>decide (e.1=fG l))with _|e
   grind
   rw[b]at a
   have:=c.kinds e<|Hv b
   grind
  grind
theorem TU:fv (fU (E++[e]) d)=fv (fU E d)+if wl e.1 d=fm then 1 else 0:=by
 grind [fU,lI,wl]
theorem gf.push(g:gf E data)(s:fL (l++[x]))(B:fv (l++[x])<=5)(C:∃f,gj E l=fh (2,f))(p:gj E (l++[x])=fj)(D:fv (fU E<|fG l)<16){h f:Int}{j:fQ}(F:h=1\/h=2)(G:fv data<=fv j)(H:h=1->0<=f/\f<(fv j:Int)):gf (E++[(fG<|l++[x],h,f)]) j:=by
 have q:l++[x]≠[]:=by simp
 have look:=λ{m:fQ}(i:fL m)=>CM (k:=h) (f:=f) s q i p;refine⟨λe c=>?_,?_,λd t=>?_,λe c=>?_,λe c u=>?_,λm y i o=>?_⟩;rcases qJ.1 c with c|c
 exact g.jF e c
 grind
 unfold oJ;rw[nZ,List.nodup_append];refine⟨g.one,by simp,λa v b r e=>?_⟩;simp only[lM,Cf,om]at r;have⟨n,w,z⟩:=jC.1 v;exact(rE q).2 ⟨n,w,by rw[z,e,r]⟩ p
 ·rw[TU]
  split
  ·next U=>
   grind [kR,List.append_inj']
  have:=g.few d t
  omega
 rcases qJ.1 c with c|c
 exact g.kinds e c
 grind
 rcases qJ.1 c with c|c
 have:=g.files e c u
 omega
 grind
 rw[look i]at o;have A:=i.left;rw[look A];by_cases e:m++[y]=l++[x]
 ·all_goals simp_all
 rw[km e]at o;obtain⟨f,I⟩:=g.up m y i o
 grind
theorem gf.aaY(a:gf E data)(b:fL (l++[x]))(c:fv (l++[x])<=5)(d:∃f,gj E l=fh (2,f))(g:gj E (l++[x])=fj)(h:fv (fU E<|fG l)<16):gf (E++[(fG<|l++[x],2,0)]) data:=a.push b c d g h (.inr fX) (lw _) (λe=>by cases e)
theorem IB(E)(p d):fv (fU (vx E p) d)<=fv (fU E d):=by
 grind [fU,vx,oL,List.filter_filter,wl,Do,List.Sublist.filter,List.filter_sublist]
theorem gf.gone(a:gf E data)(i:fL l)(j:l≠[]):gf (vx E<|fG l) data:=by
 refine⟨a.jF.gone _,a.one.sublist<|(List.filter_sublist (l:=E)).map _,λd k=>ww (IB _ _ _)<|a.few d k,λe g=>a.kinds e<|qx g,λe g n=>a.files e (qx g) n,λm y h b=>?_⟩;rw[uZ i j h]at b;have c:¬l <+: m++[y]:=λc=>by rw[lv c]at b;exact b fX
 rw[km c]at b;obtain⟨f,o⟩:=a.up m y h b;rw[uZ i j h.left,km λp=>c<|p.trans (qD _ _)];exact⟨f,o⟩
def Kj(f t)(e):(po f t e).2=e.2:=by unfold po;split<;>rfl
theorem hlj{t}(g:pU E)(h:fL t)(i:t≠[]):∀e∈vx E (fG t),∃a,a≠[]/\fL a/\fv a<=5/\e.1=fG a/\¬t <+: a:=λe c=>by
 have⟨a,j,d,k,f⟩:=g e<|qx c
 refine⟨a,j,d,k,f,λl=>?_⟩
 have:=(Ax.1 c).2
 rw[f]at this
 rcases(qw d h i).2 l with b|b
 rw[b]at this
 cases this
 rw[b]at this
 simp at this
theorem CN{f t a:fQ}(c:fL f)(d:f≠[])(g:t≠[])(h:fL a)(b:e.1=fG a):(po (fG f) (fG t) e).1=fG (if f <+: a then t++a.drop (fv f) else a):=by
 have⟨p,_⟩:=e;simp only at b;subst b;rw[tG c d g h];split<;>rfl
theorem Gy{a}(b:fL a)(k):fL (a.drop k):=λx c=>b x<|Ws c
theorem gf.rename{data:(List ByteArray)}(h:gf E data){F P:(List ByteArray)}{y:ByteArray}(hF:fL F)(hFn:F≠[])(hT:fL (P++[y]))(Try:∀e∈E,∀a,fL a->e.1=fG a->F <+: a->fv (P++[y])+(fv a-fv F)<=5)(hFT:¬F <+: P++[y])(hTF:¬P++[y] <+: F)
  (TCP:∃g,gj E P=fh (2,g))(acO:gj E (P++[y])≠fj\/fv (fU E<|fG P)<16\/∃z,F=P++[z]/\gj E F≠fj):
  gf ((vx E<|fG (P++[y])).map<|po (fG F) (fG<|P++[y])) data:=by
 have hTn:P++[y]≠[]:=by simp
 have key:=hlj h.jF hT hTn;have look:=λ{m:(List ByteArray)}(hm:fL m)=>DA h.jF hF hFn hT hTn hFT hTF hm;have jF:pU ((vx E<|fG (P++[y])).map<|po (fG F) (fG<|P++[y])):=by
  intro e' he';obtain⟨e,he,rfl⟩:=jC.1 he';have⟨a,ha0,ha,h5,hea,hta⟩:=key e he;rw[CN hF hFn hTn ha hea];by_cases hfa:F <+: a;rw[lv hfa];refine⟨_,by simp,hT.append<|Gy ha _,?_,fX⟩
  have:=Try e (qx he) a ha hea hfa
  rw[lI,rL];exact this;rw[km hfa];exact⟨a,ha0,ha,h5,fX⟩
 have one:oJ ((vx E<|fG (P++[y])).map<|po (fG F) (fG<|P++[y])):=by
  unfold oJ;rw[Ed];have hg:=(h.gone hT hTn).one;refine BK (λe1 h1 e2 h2 he=>?_)<|qV _ hg;have⟨a1,_,v1,_,p1,t1⟩:=key e1 h1;have⟨a2,_,v2,_,p2,t2⟩:=key e2 h2;simp only[Function.comp]at he;rw[CN hF hFn hTn v1 p1,CN hF hFn hTn v2 p2]at he;have hvv:∀{a:(List ByteArray)},fL a->fL (if F <+: a then(P++[y])++a.drop (fv F) else a):=λ{a}ha=>by
   split;exact hT.append<|Gy ha _;exact ha
  have hq:=tk (hvv v1) (hvv v2) he;have hpe:a1=a2:=by
   by_cases f1:F <+: a1<;>by_cases f2:F <+: a2;rw[lv f1,lv f2]at hq;obtain⟨r1,rfl⟩:=f1;obtain⟨r2,rfl⟩:=f2;rw[yQ,yQ]at hq;rw[Hw hq];rw[lv f1,km f2]at hq;exact absurd ⟨_,hq⟩ t2;rw[km f1,lv f2]at hq;exact absurd ⟨_,hq.symm⟩ t1;rwa [km f1,km f2]at hq
  have acQ:e1.1=e2.1:=by rw[p1,p2,hpe]
  have:∀{l:List fV},(l.map (·.1)).Nodup->∀{a b:fV},a∈l->b∈l->a.1=b.1->a=b:=by
   intro l hl a b ha hb e
   induction l with
   |nil=>cases ha
   |cons x r ih=>
    rw[lM,WC]at hl;rcases oc.1 ha with rfl|ha'<;>rcases oc.1 hb with rfl|hb'
    rfl;exact absurd (jC.2 ⟨b,hb',e.symm⟩) hl.1;exact absurd (jC.2 ⟨a,ha',e⟩) hl.1;exact ih hl.2 ha' hb'
  exact this hg h1 h2 acQ
 have Gz:∀{d:(List ByteArray)}{x:ByteArray},fL d->fN x=fm->gj E (d++[x])≠fj->x∈ij E (fG d):=λhd hx hl=>(yF h.jF hd).2 ⟨hx,hl⟩;refine⟨jF,one,λd hd=>?_,λe he=>?_,λe he hk=>?_,λm x hm hs=>?_⟩;rw[<-ru];have oh:=PY jF one hd;have Tf:∀x∈ij ((vx E<|fG (P++[y])).map<|po (fG F) (fG<|P++[y])) (fG d),fN x=fm/\fL (d++[x])/\(if P++[y] <+: d++[x]then gj E (F++(d++[x]).drop (fv<|P++[y]))else if F <+: d++[x]then fj else gj E (d++[x]))≠fj:=λx hx=>by
  have⟨h1,h2⟩:=(yF jF hd).1 hx;have hv:fL (d++[x]):=hd.append (λz hz=>by rw[om.1 hz];exact h1);rw[look hv]at h2;exact⟨h1,hv,h2⟩
 have l16:∀{d},fL d->fv (ij E<|fG d)<=16:=λhd=>by rw[ru];exact h.few _ hd
 by_cases hTd:P++[y] <+: d;obtain⟨r,rfl⟩:=hTd;refine ww (jU oh λx hx=>?_)<|l16 (hF.append hd.right);have⟨h1,hv,h2⟩:=Tf x hx;rw[lv<|(qD _ r).trans (qD _ _),sP,yQ,<-sP]at h2;exact Gz (hF.append hd.right) h1 h2;by_cases hPd:d=P;subst hPd;have sub:∀x∈ij ((vx E<|fG (d++[y])).map<|po (fG F) (fG<|d++[y])) (fG d),x=y\/(x∈ij E (fG d)/\¬F <+: d++[x]):=λx hx=>by
  have⟨h1,hv,h2⟩:=Tf x hx;by_cases e:d++[y] <+: d++[x];have⟨r,hr⟩:=e
  have:r=[]:=by
   have:=congrArg List.length hr
   simpa using this
  subst this;rw[lJ]at hr
  have:=Hw hr
  exact .inl (ih2 this).1.symm;rw[km e]at h2;by_cases e2:F <+: d++[x];rw[lv e2]at h2;exact absurd fX h2;rw[km e2]at h2;exact .inr ⟨Gz hd h1 h2,e2⟩
 have hyv:=hT y (by simp);rcases acO with hc|hc|⟨z,hz,hzl⟩
 exact ww (jU oh λx hx=>(sub x hx).elim (λe=>by rw[e];exact Gz hd hyv hc) (·.1))<|l16 hd;have hle:=jU oh (ys:=y::ij E (fG d)) λx hx=>(sub x hx).elim (λe=>by rw[e];exact oN ..) λe=>wC _ e.1;rw[lg,ru E]at hle;omega;have hzv:fN z=fm:=hF z (by rw[hz];simp);have hzm:z∈ij E (fG d):=Gz hd hzv (by rw[<-hz];exact hzl);have hle:=jU oh (ys:=y::(ij E<|fG d).filter λu=>decide (u≠z)) λx hx=>(sub x hx).elim (λe=>by rw[e];exact oN ..) λe=>wC _ (Ax.2 ⟨e.1,iE λexz=>e.2 (by rw[exz,hz];exact List.prefix_rfl)⟩);have hlt:fv ((ij E<|fG d).filter λu=>decide (u≠z))<fv (ij E<|fG d):=Dom.2 ⟨z,hzm,by simp⟩;rw[lg]at hle
 have:=l16 hd
 omega;refine ww (jU oh λx hx=>?_)<|l16 hd;have⟨h1,hv,h2⟩:=Tf x hx;have hnp:¬P++[y] <+: d++[x]:=λe=>by
  rcases sig.1 (by simpa using e)with e|e
  exact hPd (List.append_inj' e fX).1.symm;exact hTd e
 rw[km hnp]at h2;by_cases e2:F <+: d++[x];rw[lv e2]at h2;exact absurd fX h2;rw[km e2]at h2;exact Gz hd h1 h2;obtain⟨e0,he0,rfl⟩:=jC.1 he;rw[Kj];exact h.kinds e0<|qx he0;obtain⟨e0,he0,rfl⟩:=jC.1 he;rw[Kj]at hk |-;exact h.files e0 (qx he0) hk;rw[look hm]at hs;rw[look hm.left];by_cases hTm:P++[y] <+: m;obtain⟨r,rfl⟩:=hTm;rw[lv<|(qD _ r).trans (qD _ _),sP,yQ,<-sP]at hs;rw[lv<|qD _ _,yQ];have hv:=(hF.append hm.left.right).append hm.right;exact h.up (F++r) x hv hs;rw[km hTm];by_cases hTx:P++[y] <+: m++[x];rcases sig.1 (by simpa using hTx)with e|e
 have:=(List.append_inj' e fX).1
 subst this;rw[km λe=>hFT<|e.trans (qD _ _)];exact TCP;exact absurd e hTm;rw[km hTx]at hs;by_cases e2:F <+: m++[x];rw[lv e2]at hs;exact absurd fX hs;rw[km e2]at hs;rw[km λe=>e2<|e.trans (qD _ _)];exact h.up m x hm hs
theorem hlm(c:ig E l=0):∀k,k<fv l->ol E (fG<|l.take k)=2/\ol E (fG<|l.take (k+1))≠0:=by
 intro k f;have g:∀a,a<fv l->kJ E l a=fj:=by
  intro a d;rcases b:(List.range<|fv l).findSome? (kJ E l)with _|e
  exact scp.1 b a<|Rp.2 d;exfalso;unfold ig at c;rw[b]at c;obtain⟨i,_,U⟩:=List.exists_of_findSome?_eq_some b
  grind [kJ]
 grind [kJ]
theorem PZ(c:gf E data)(d:fL l)(a:l≠[])(b:ig E l=0):gj E l≠fj:=by
 have e:0<fv l:=Ww.2 a
 have:=(hlm b (fv l-1)<|by omega).2
 grind [sL,mq]
theorem VM(b:gf E data)(c:fL (l++[x]))(a:xu E (l++[x])=0):∃f,gj E l=fh (2,f):=by
 unfold xu at a;have e:(l++[x]).take (fv (l++[x])-1)=l:=by simp
 rw[e]at a;split at a
 ·next h1=>exact absurd a h1
 split at a;cases a
 next h2=>exact(mq b c.left).2.1.1 (by omega)
theorem yG{p}(a:(jz p).2=fm)(c:(jz p).1.length≠0):∃l x,(jz p).1=l++[x]/\p=fG (l++[x])/\fL (l++[x])/\fv (l++[x])<=5:=by
 have d:fL (jz p).1:=Dj p;have f:=jL a;have g:=Gv a;obtain⟨l,x,e⟩:∃l x,(jz p).1=l++[x]:=by
  have b:(jz p).1≠[]:=λe=>c (by rw[e];rfl);exact⟨(jz p).1.dropLast,(jz p).1.getLast b,(List.dropLast_concat_getLast b).symm⟩
 grind
theorem Qa(b:gf E data)(p):
  ((yr E p).2≠0/\(yr E p).1=E)\/((yr E p).2=0/\∃l x,p=fG (l++[x])/\fL (l++[x])/\fv (l++[x])<=5/\gj E (l++[x])=fj/\gf (yr E p).1 data/\∀m,fL m->gj (yr E p).1 m=if m=l++[x]then fh (2,0)else gj E m):=by
 unfold yr;split
 grind
 next h1=>
 have f:(jz p).2=fm:=by simpa using h1
 split
 grind
 next h2=>
 obtain⟨l,x,e,g,a,d⟩:=yG f h2;have h:(l++[x]).take (fv (l++[x])-1)=l:=by simp
 rw[e,h];split
 ·next h3=>exact .inl ⟨h3,rfl⟩
 next h3=>
 split
 grind
 next h4=>
 split
 grind
 next h5'=>
 have c:=(mq b a).1.1 (by grind);rw[g];refine .inr ⟨fX,l,x,fX,a,d,c,b.aaY a d (VM b a<|by omega) c<|by omega,λm i=>CM a (by simp) i c⟩
theorem Mi(b:gf E data)(p):
  ((rx E p).2≠0/\(rx E p).1=E)\/((rx E p).2=0/\∃l x,p=fG (l++[x])/\fL (l++[x])/\fv (l++[x])<=5/\gj E (l++[x])≠fj/\fU E p=[]/\gf (rx E p).1 data/\∀m,fL m->gj (rx E p).1 m=if l++[x] <+: m then fj else gj E m):=by
 unfold rx;split
 grind
 next h1=>
 have d:(jz p).2=fm:=by simpa using h1
 split
 grind
 next h2=>
 obtain⟨l,x,e,c,a,f⟩:=yG d h2;rw[e];split
 ·next h3=>exact .inl ⟨h3,rfl⟩
 next h3=>
 split
 grind
 next h4=>
 refine .inr ⟨fX,l,x,c,a,f,(PZ b a (by simp)<|by omega),KQ<|by omega,?_,λm g=>?_⟩;rw[c];exact b.gone a<|by simp
 grind [uZ]
theorem DC(h:gf E data){b:fQ}:∀(a:fQ),a≠[]->fL (b++a)->gj E (b++a)≠fj->(∃f,gj E b=fh (2,f))/\fU E (fG b)≠[]
 |[],d,_,_=>absurd fX d
 |[x],_,c,g=>by
  refine⟨h.up b x c g,λe=>?_⟩
  have i:=(yF h.jF c.left).2 ⟨c x<|by simp,g⟩
  unfold ij at i
  rw[e]at i
  cases i
 |x::y::a,_,c,g=>by
  have j:∃f,gj E (b++(x::y::a).dropLast)=fh (2,f):=by
   have e:b++x::y::a=(b++(x::y::a).dropLast)++[(x::y::a).getLast<|by simp]:=by rw[sP,List.dropLast_concat_getLast]
   rw[e]at c g;exact h.up _ _ c g
  have k:fL (b++(x::y::a).dropLast):=λz l=>c z (by
   rcases qJ.1 l with d|d
   exact Rn _ d;exact Wt _<|(List.dropLast_prefix _).subset d)
  obtain⟨f,m⟩:=j;exact DC h ((x::y::a).dropLast) (by simp) k (by rw[m];simp)
 termination_by a=>fv a
 decreasing_by simp
theorem lsb{f}{n m:Nat}(b:fL f)(c:f≠[])(d:n=fv f)(g:E.any (iG (fG f) n m)=fo):∀e∈E,∀a,fL a->e.1=fG a->f <+: a->a≠f->m+(fv a-fv f)<=5:=by
 grind [List.any_eq_false,Do,fG,qU,absurd,nV,iG,rC]
theorem Mj(g:gf E data)(f t):
  ((zt E f t).1=E/\((zt E f t).2≠0\/f=t))\/((zt E f t).2=0/\∃F b y,f=fG F/\t=fG (b++[y])/\F≠[]/\fL F/\fv F<=5/\fL (b++[y])/\fv (b++[y])<=5/\gj E F≠fj/\¬F <+: b++[y]/\¬b++[y] <+: F/\gf (zt E f t).1 data/\
   ∀m,fL m->gj (zt E f t).1 m=if b++[y] <+: m then gj E (F++m.drop (fv<|b++[y]))else if F <+: m then fj else gj E m):=by
 obtain⟨ag,c⟩:=oX<|zt E f t;rw[<-c];unfold zt at c;by_cases n:(jz f).2=fo\/(jz t).2=fo
 grind
 rw[km n]at c;have I:(jz f).2=fm:=by cases o:(jz f).2 with|true=>rfl|false=>exact absurd (.inl o) n
 have J:(jz t).2=fm:=by cases o:(jz t).2 with|true=>rfl|false=>exact absurd (.inr o) n
 by_cases p:(jz f).1.length=0\/(jz t).1.length=0
 grind
 rw[km p]at c;obtain⟨l,x,K,j,d,v⟩:=yG I λe=>p<|.inl e;obtain⟨b,y,L,k,h,M⟩:=yG J λe=>p<|.inr e;have N:(b++[y]).take (fv (b++[y])-1)=b:=by simp
 rw[K,L,N]at c;obtain⟨F,hF⟩:=oX<|l++[x];rw[<-hF]at j d v c;have i:F≠[]:=by rw[hF];simp
 by_cases O:ig E F≠0
 grind
 rw[km O]at c;have q:=PZ g d i (by omega);by_cases w:Do t f=fm
 grind
 rw[km w]at c;by_cases P:xu E (b++[y])≠0
 grind
 rw[km P]at c;by_cases A:(f.toList==t.toList)=fm
 grind [iF,mE]
 rw[km A]at c;have B:F≠b++[y]:=λe=>A (by grind)
 have r:¬F <+: b++[y]:=λs=>by
  rcases qU.2 s with e|e
  exact B e.symm;exact w (by grind [nV])
 by_cases Q:ol E t=2/\ol E f=1
 grind
 rw[km Q]at c;by_cases R:ol E t=1/\ol E f=2
 grind
 rw[km R]at c;by_cases C:ol E t=2/\0<fv (fU E t)
 grind
 rw[km C]at c;by_cases S:ol E t=0/\16<=fv (fU E<|fG b)/\wl f (fG b)=fo
 grind
 rw[km S]at c;by_cases D:(E.any<|iG f (fv F) (fv<|b++[y]))=fm
 grind
 rw[km D]at c;have u:¬b++[y] <+: F:=λs=>by
  rcases qU.2 s with e|⟨T,V,e⟩
  exact B e;rw[e]at q d;obtain⟨W,U⟩:=DC g T V d q;refine C ⟨by rw[k];exact(mq g h).2.1.2 W,?_⟩;rw[k];exact Ww.2 U
 have X:E.any (iG (fG F) (fv F)<|fv (b++[y]))=fo:=by rw[<-j];simpa using D
 have Y:∀e∈E,∀a,fL a->e.1=fG a->F <+: a->fv (b++[y])+(fv a-fv F)<=5:=λe Z a aa ab ac=>by
  by_cases G:a=F;rwa [G,EK];exact lsb d i fX X e Z a aa ab ac G
 have ad:gj E (b++[y])≠fj\/fv (fU E<|fG b)<16\/∃z,F=b++[z]/\gj E F≠fj:=by
  by_cases ae:gj E (b++[y])=fj
  right
  have ah:ol E t=0:=by rw[k];exact(mq g h).1.2 ae
  by_cases ai:16<=fv (fU E<|fG b)
  right
  have H:wl f (fG b)=fm:=by
   grind
  rw[j]at H;obtain⟨z,aj⟩:=(kR d h.left).1 H
  grind
  left
  omega
  grind
 rw[c,j,k];exact .inr ⟨fX,F,b,y,fX,fX,i,d,v,h,M,q,r,u,g.rename d i h Y r u (VM g h<|by omega) ad,λm af=>DA g.jF d i h (by simp) r u af⟩
def IC (data:fQ)(x:Int×Int):Nd:=if x.1=2 then .dir else .file ((data[x.2.toNat]?).getD ⟨#[]⟩)
def Reads (a:List Ob)(fc:ji)(t:LT)(E:List fV)(data:fQ):Prop:=∀q,fL q->xc a fc t q=(gj E q).map (IC data)
theorem GA(a:fP Y){x:fO×LT}(b:x∈Y):jp Y x.1=fh x.2:=by
 grind [rI,yg]
def Reads.empty(b:Reads a fc t E data)(c:fL q):gj E q=fj↔xc a fc t q=fj:=by
 rw[b q c,cat]
def Reads.Qb(c:Reads a fc t E data)(d:gf E data)(b:fL q):ol E (fG q)=0↔xc a fc t q=fj:=(mq d b).1.trans<|c.empty b
theorem Reads.tI(d:Reads a fc t E data)(e:gf E data)(b:fL q):ol E (fG q)=2↔xc a fc t q=fh .dir:=by
 rw[(mq e b).2.1,d q b];constructor;rintro⟨f,g⟩;rw[g];rfl;intro c;rcases h:gj E q with _|x
 rw[h]at c;cases c
 grind [pW,IC]
theorem tJ(b:gf E data){x:Int×Int}(a:gj E q=fh x):x.1=1\/x.1=2:=by
 unfold gj at a;split at a
 grind
 obtain⟨e,c,rfl⟩:=EE.1 a;exact b.kinds e<|Hv c
theorem Reads.Kk(e:Reads a fc t E data)(g:gf E data)(b:fL q):ol E (fG q)=1↔∃d,xc a fc t q=fh (.file d):=by
 rw[(mq g b).2.2,e q b];constructor;rintro⟨f,h⟩;rw[h];exact⟨_,fX⟩;rintro⟨d,c⟩;rcases i:gj E q with _|x
 rw[i]at c;cases c
 grind [pW,IC,tJ,absurd]
theorem hlp(E)(l:fQ)(x:fO):ig E (l++[x])=if ig E l≠0 then ig E l else if ol E (fG l)≠2 then 5 else if ol E (fG<|l++[x])=0 then 4 else 0:=by
 have c:∀b,b<fv l->kJ E (l++[x]) b=kJ E l b:=λb a=>by
  unfold kJ;rw[scc<|by omega,scc<|by omega]
 have d:kJ E (l++[x]) (fv l)=if ol E (fG l)≠2 then fh 5 else if ol E (fG<|l++[x])=0 then fh 4 else fj:=by
  grind [kJ,Ec,oM]
 have f:∀(m:Nat),m<=fv l->(List.range m).findSome? (kJ E<|l++[x])=(List.range m).findSome? (kJ E l):=by
  intro m j
  induction m with
  |zero=>rfl
  |succ m g=>rw[List.range_succ,hEq,hEq,g<|by omega];simp only[List.findSome?_cons,List.findSome?_nil,c m<|by omega]
 have k:∀e,(List.range<|fv l).findSome? (kJ E l)=fh e->e≠0:=λe h=>by
  have⟨_,b,_,_,a,_⟩:=List.findSome?_eq_some_iff.1 h;unfold kJ at a;split at a;cases a;decide;split at a;cases a;decide;cases a
 have i:ig E (l++[x])=(((List.range<|fv l).findSome?<|kJ E l).or<|kJ E (l++[x]) (fv l)).getD 0:=by
  unfold ig;rw[lI,Ca,List.range_succ,hEq,f _<|lw _,List.findSome?_cons]
  grind
 rw[i,d];unfold ig;cases n:(List.range<|fv l).findSome? (kJ E l) with
 |some e=>
  grind
 |none=>
  grind
theorem tK(b:nd a fc c=.dir):∃Y,kids a c=fh Y:=by
 cases c<;>first|exact⟨_,fX⟩|cases b
theorem qW(b:nd a fc c=.file d):kids a c=fj:=by
 cases c<;>first|rfl|cases b
theorem rF(f:Reads a fc t E data)(g:gf E data):∀b:fQ,fL (fx b)->(pm a t b).1=ig E (fx b)
 |[],_=>rfl
 |n::b,e=>by
  rw[kL]at e
  have m:pm a t (n::b)=(if(pm a t b).1≠0 then((pm a t b).1,.dir 0)else if(jy a (pm a t b).2).1≠0 then((jy a (pm a t b).2).1,.dir 0)else match jp (jy a (pm a t b).2).2 n with
   |none=>(4,.dir 0)
   |some c=>(0,c)):=fX
  rw[kL,hlp,<-(rF f g b e.left),m]
  by_cases h:(pm a t b).1≠0
  grind
  rw[km h,km h]
  have k:=vZ<|oP.1 h
  have o:xc a fc t (fx b)=fh (nd a fc (pm a t b).2):=by unfold xc;rw[k];rfl
  cases i:kids a (pm a t b).2 with
  |none=>
   rw[Ac i,lv<|by decide,lv λp=>?_]
   have:=(f.tI g e.left).1 p
   grind [pW,tK]
  |some Y=>
   have q:ol E (fG<|fx b)=2:=(f.tI g e.left).2 (by
    rw[o]
    cases r:nd a fc (pm a t b).2 with
    |dir=>rfl
    |file d=>rw[qW r]at i;cases i)
   rw[vY i,km<|by simp,km (by simp[q])]
   have j:=mY (fc:=fc) k i n []
   rcases l:jp Y n with _|c
   rw[l]at j
   simp only
   rw[lv<|(f.Qb g e).2 (by grind)]
   rw[l]at j
   simp only
   rw[km (λh=>by
    have:=(f.Qb g e).1 h
    rw[show fx b++[n]=fx b++n::[]from fX,j,wy,px]at this
    cases this)]
theorem Mk(e:Reads a fc t E data)(f:gf E data){b:fQ}(g:fL (fx b))(x:fO):(jA a t b).1=xu E (fx b++[x]):=by
 have j:(fx b++[x]).take (fv (fx b++[x])-1)=fx b:=Ec (by simp);unfold xu jA;rw[j,<-(rF e f b g)];simp only;by_cases h:(pm a t b).1≠0
 grind
 rw[km h,km h];have k:xc a fc t (fx b)=fh (nd a fc (pm a t b).2):=by unfold xc;rw[(vZ<|oP.1 h)];rfl
 rcases c:kids a (pm a t b).2 with _|Y
 rw[Ac c,lv λi=>?_]
 have:=(e.tI f g).1 i
 grind [pW,tK]
 rw[vY c,km (λi=>i ((e.tI f g).2 (by
  rw[k];cases l:nd a fc (pm a t b).2 with
  |dir=>rfl
  |file d=>rw[qW l]at c;cases c)))]
theorem CO{d:Type}(f:d->fO):∀{a b:List d},a.Pairwise (λx y=>ja (f x) (f y)<0)->b.Pairwise (λx y=>ja (f x) (f y)<0)->(∀x,x∈a↔x∈b)->a=b
 |[],[],_,_,_=>rfl
 |[],y::b,_,_,c=>by have:=(c y).2<|oN ..;cases this
 |x::a,[],_,_,c=>by have:=(c x).1<|oN ..;cases this
 |x::a,y::b,h,i,c=>by
  obtain⟨l,j⟩:=sJ.1 h
  obtain⟨m,k⟩:=sJ.1 i
  have n:∀z:d,¬ja (f z) (f z)<0:=λz g=>by rw[jb]at g;omega
  have e:x=y:=by
   grind [oN,absurd,pG]
  subst e
  congr 1
  refine CO f j k λz=>⟨λg=>?_,λg=>?_⟩
  all_goals grind
def ID{a b:fQ}(c:a.Pairwise λx y=>ja x y<0)(d:b.Pairwise λx y=>ja x y<0)(e:∀x,x∈a↔x∈b):a=b:=CO (λx=>x) c d e
theorem CP(j:Reads a fc t E data)(c:gf E data)(k:Sound a)(o:fM a 5 t){d:LT}(f:t.at a q=fh d)(g:kids a d=fh Y):Y.map (·.1)=ij E (fG q):=by
 have⟨_,p,b⟩:=tA k q o f;have⟨l,_,r⟩:=lO k p g;refine ID (wK.2<|show Y.Pairwise (λx y=>ja x.1 y.1<0)from l) (wK.2<|show(gY<|fU E (fG q)).Pairwise (λx y=>ja x.1 y.1<0)from Mh c.jF c.one b) λx=>?_;rw[yF c.jF b];constructor;intro s;obtain⟨y,m,rfl⟩:=jC.1 s;have n:=(r y m).1;refine⟨n,λh=>?_⟩
 have:=(j.empty<|b.append (λz i=>by rw[om.1 i];exact n)).1 h
 rw[show q++[y.1]=q++y.1::[]from fX,mY f g,GA l m,wy,px]at this;cases this;rintro⟨u,h⟩;have v:xc a fc t (q++[x])≠fj:=λe=>h<|(j.empty (b.append (λz i=>by rw[om.1 i];exact u))).2 e
 rw[show q++[x]=q++x::[]from fX,mY f g]at v
 grind [jp,absurd,rX]
def ve(b:Reads a fc t E data)(c:gf E data)(e:Sound a)(f:fM a 5 t){d:LT}(g:t.at a q=fh d)(h:kids a d=fh Y):fv Y=fv (fU E<|fG q):=by
 rw[<-ru,<-CP b c e f g h,oL]
theorem TV(b:Exact a):∀(n:Nat)(c:LT),0<=kO a n c
 |n,.file id=>by cases n<;>exact b.sound.1 id
 |n,.held f=>by cases n<;>exact wE _
 |n,.dir id=>by cases n<;>exact b.sound.1 id
 |0,.own d=>wE _
 |n+1,.own d=>by
  rw[kO]
  exact((iq (λx:fO×LT=>kO a n x.2) d 0 _).1<|wE _).1
theorem lss(f:Exact a):∀(n:Nat)(c:LT),fM a n c->∀m:Nat,kO a n c<=(m:Int)↔∀x,xc a fc c x≠fj->fv x<=m:=by
 intro n
 induction n with
 |zero=>
  intro c g m;have k:kO a 0 c<=(m:Int):=by
   have:=hkt f 0 c g
   omega
  refine⟨λ_ x b=>?_,λ_=>k⟩;rcases p:c.at a x with _|d
  unfold xc at b;rw[p]at b;exact absurd fX b
  have:=(tA f.sound x g p).1
  omega
 |succ n q=>
  intro c g m;by_cases l:c.kind=2;have⟨Y,i⟩:=rB (a:=a) l;rw[hkx f i<|TN g,iq (λx:fO×LT=>kO a n x.2)];have⟨u,_,v⟩:=lO f.sound g i;have r:∀x∈Y,fM a n x.2:=λx b=>by
   have⟨_,m,e,w⟩:=v x b;cases e;exact w
  constructor;rintro⟨_,j⟩ x b;cases x with
  |nil=>simp
  |cons y s=>
   rw[ul,i,wy]at b;rcases h:jp Y y with _|e
   rw[h]at b;exact absurd fX b;rw[h,wy]at b;have t:=rX h;have o:=j _ t;simp only at o;have z:0<=kO a n e:=(TV f n e)
   have:=(q e (r _ t)<|m-1).1 (by omega) s b
   grind
  intro j;refine⟨by omega,λx b=>?_⟩;have h:=GA u b;have k:xc a fc c [x.1]≠fj:=by rw[ul,i,wy,h,wy,px];simp
  have o:=j _ k;simp at o
  have:=(q x.2 (r x b)<|m-1).2 (λy A=>by
   have:=j (x.1::y) (by grind [ul])
   rw[lg]at this;omega)
  omega;rw[hkB f g l];refine⟨λ_ x b=>?_,λ_=>by omega⟩;rcases x with _|⟨y,s⟩
  simp;rw[ul,pT l]at b;exact absurd fX b
abbrev qX:ji:=λ_=>⟨#[]⟩
def IE (A:List Ob)(fc:ji)(t:LT)(a:List Ob)(f:fQ->Option Int)(q:fQ):Prop:=∀c,t.at A q=fh c->c.id=0->∃id,f q=fh id/\fM a 5 (kW c.kind id)/\uW a qX (kW c.kind id) A fc c
theorem IE.app(d:IE A fc t a f q)(e:Sound a)(l:List Ob):IE A fc t (a++l) f q:=λc g U=>by
 obtain⟨id,h,b,i⟩:=d c g U
 exact⟨id,h,jl l 5 _ b,λy=>(ng e l qX y 5 _ b).trans<|i y⟩
theorem IE.fn{f b:fQ->Option Int}(d:IE A fc t a f q)(e:b q=f q):IE A fc t a b q:=λc g U=>by rw[e];exact d c g U
def vg (w0:fq)(p:Nat)(A:List Ob)(D:Nat->Prop)(W J:fq)(b:DB)(ow:Nat)(H:List Ob)(f:fQ->Option Int)(q:fQ)(N':Nat)(fc:ji)(t:LT)(e:Bool):Prop:=
 ∃d c,zl w0 p A d J b ow H c N'/\sN (TC D ow) (TC d ow) W J/\(∀a,¬q <+: a->c a=f a)/\∀a,q <+: a->(e=fm->a≠q)->IE A fc t H c a
theorem zm.nine{d:Bool}(e:zm w0 p A D W J b ow H f q N')(g:∀a c,q <+: a->(d=fm->a≠q)->t.at A a=fh c->c.id≠0):vg w0 p A D W J b ow H f q N' fc t d:=by
 obtain⟨h,i,j,k,l⟩:=e;exact⟨h,i,j,k,l,λa m n c o U=>absurd U<|g a c m n o⟩
theorem Zk(l:Sound A){t b:LT}(o:t.at A q=fh b)(p:fM A n b)(r:(∃i,b=.file i)\/∃i,b=.dir i){k:fQ}(s:q <+: k)(h:t.at A k=fh c):c.id≠0:=by
 obtain⟨y,rfl⟩:=s;rw[lx,o,wy]at h;have f:=(tA l _ p h).2.1;have u:∀(y:fQ)(b:LT),((∃i,b=.file i)\/∃i,b=.dir i)->b.at A y=fh c->(∃i,c=.file i)\/∃i,c=.dir i:=by
  intro y
  induction y with
  |nil=>intro b j d;rw[pd]at d;cases d;exact j
  |cons m y v=>
   intro b j d;rw[lh]at d;rcases j with⟨i,rfl⟩|⟨i,rfl⟩
   cases d;rw[show kids A (.dir i)=fh ((fT A i).map wd)from fX,wy]at d;rcases g:jp ((fT A i).map wd) m with _|z
   rw[g]at d;cases d;rw[g,wy]at d;refine v z ?_ d;unfold jp at g;obtain⟨x,w,rfl⟩:=EE.1 g;obtain⟨e,B,rfl⟩:=jC.1<|Hv w;show(∃i,ltOf e=.file i)\/∃i,ltOf e=.dir i;unfold ltOf;split;exact .inr ⟨_,fX⟩;exact .inl ⟨_,fX⟩
 rcases u y b r h with⟨i,rfl⟩|⟨i,rfl⟩
 rw[fM]at f
 have:=(np (a:=A) (id:=i) (by rw[f];decide)).1
 show i≠0;omega;rw[fM]at f
 have:=(np (a:=A) (id:=i) (by rw[f.1];decide)).1
 show i≠0;omega
theorem Kl(b:n<=5){k id:Int}(c:fJ a id=k)(d:gp a id<=n)(e:k=1\/k=2):fM a 5 (kW k id):=by
 grind [kW,fM]
theorem DD{T:gC}{g:WG}{I:Nat}(u:zl w0 p A D W b ow a f N)(v:Good q)(C:f q=fj)(h)(k d:Int)(R:N'<5000000)
  (S:t.at A q=fh c)(V:fM H 5 (kW c.kind d)/\uW H qX (kW c.kind d) A fc c)
  (E:∀i,ju W i->ik 147 #[fD #[ii B.bt,ii b.dr,.map<|fh ow],fD<|jn q,fY k] i λe J=>e=fF (fY d)/\vg w0 p A D i J b ow H f q N' fc t fm):
  ik 74 #[fD #[ii B.bt,ii b.dr,.map<|fh ow],fD<|jn q,fD #[hZ h,fY k,fY 0]] W λe J=>e=fF (fY d)/\vg w0 p A D W J b ow H f q (N'+1) fc t fo:=by
 have w:=oI W B.bt b.dr ow (comp q 0) (comp q 1) (comp q 2) (comp q 3) (comp q 4) h k 0;have X:(jM W B.bt b.dr ow (comp q 0) (comp q 1) (comp q 2) (comp q 3) (comp q 4) h k 0).heap.size=W.heap.size+3:=by unfold jM;simp
 refine PA B.bt b.dr ow _ _ _ _ _ h k d (λJ=>vg w0 p A D (jM W B.bt b.dr ow (comp q 0) (comp q 1) (comp q 2) (comp q 3) (comp q 4) h k 0) J b ow H f q N' fc t fm) (λJ=>vg w0 p A D W J b ow H f q (N'+1) fc t fo) W (λi F=>?_) (E _ w) (λJ⟨l,x,m,j,y,r⟩G o Y Z=>?_) (λJ⟨l,x,m,j,y,r⟩=>?_) λJ⟨l,x,m,j,y,r⟩=>?_;obtain⟨n,_,K⟩:=(u.via F).map
 have:=jT.look_ok K underlying153 (rM i) v
 rwa [C]at this;refine j.cell (by omega) (λL=>?_) o
 have:=(u.Kf G L).2
 omega
 have:=j.keeps.size
 omega;obtain⟨M,O,P,Q,_⟩:=m.note (by omega) v d;refine⟨M,O,l,_,P,(j.via w).trans Q,λs z=>?_,λs z _=>?_⟩
 grind [kh,sQ]
 by_cases e:s=q;intro aa ab U
 grind [upd_same]
 exact(r s z λ_=>e).fn<|kh e _
def whi (w0:fq)(p:Nat)(A:List Ob)(i:Nat->Prop)(w:fq)(b:DB)(ow:Nat)(g:Nat->Option (Int×fO))(n:Nat)(d:Kids)(a:List Ob)(f:fQ->Option Int)(q:fQ)(N:Nat)(t:LT)(k:Nat)(D:Nat->Prop)(W:fq):Prop:=
 ∃h f1,D=TC h ow/\zl w0 p A h W b ow (lj g n (d.take k) a).2 f1 (N+2*((d.take k).map λx=>jd n x.2).sum)/\sN (TC i ow) D w W/\(∀c,¬q <+: c->f1 c=f c)/\(∀e(j:e<fv d),k<=e->∀c,q++[(d[e]).1] <+: c->f1 c=fj)/\∀e(j:e<fv d),e<k->∀c,q++[(d[e]).1] <+: c->IE A (gz A g) t (lj g n (d.take k) a).2 f1 c
theorem Km(l:wq T w0 s i p B A g I t)(n:Nat)(am:n<=5)
  {es}(ad:fP es)(an:fv es<=16)(ao:∀x∈es,fN x.1=fm/\fM A n x.2)(ae:t.at A q=fh (.own es))(ap:Good q)(aH:∀x∈es,fv q<=4)
  (K:zl w0 p A D W b ow a f N)(L:gK A a)(aI:∀h,q <+: h->f h=fj)(bn:N+2*(es.map λx=>jd n x.2).sum<3000000)
  (aJ:∀x∈es,∀(D:Nat->Prop)(W:fq)(a:List Ob)(f:fQ->Option Int)(N:Nat),zl w0 p A D W b ow a f N->gK A a->(∀h,q++[x.1] <+: h->f h=fj)->N+2*jd n x.2<3000000->
   ik 74 #[fD #[ii B.bt,ii b.dr,.map<|fh ow],fD<|jn (q++[x.1]),fD #[hZ x.1,fY x.2.kind,fY x.2.id]] W λe J=>e=fF (fY (mn g.fl n x.2 a).1)/\vg w0 p A D W J b ow (mn g.fl n x.2 a).2 f (q++[x.1]) (N+2*jd n x.2) (gz A g.fl) t fo):
  ik 147 #[fD #[ii B.bt,ii b.dr,.map<|fh ow],fD<|jn q,fY 2] W λe J=>e=fF (fY (kC (lj g.fl n es a).2 (lj g.fl n es a).1).1)/\vg w0 p A D W J b ow (kC (lj g.fl n es a).2 (lj g.fl n es a).1).2 f q (N+2*(es.map λx=>jd n x.2).sum+1) (gz A g.fl) t fm:=by
 obtain⟨aK,_,_,aL⟩:=l.tree K.below;obtain⟨O,aq⟩:=l.inv.wp.qo;have ar:g.ft.od q=fh (es.map lL):=by rw[l.flat.od,ae];rfl
 have au:=aq.row q _ ar;have aM:∀M,ju W M->(Instr.lookup 162 (.map<|fh B.oD) (fD<|jn q) fo).run prog M=.ok (O q) M:=λM aN=>by
  have:=aq.look ap<|gS K.below aN
  rw[ar]at this;exact this
 have aO:=gg au.1 λk d=>K.below.block k<|gc au.1 d;obtain⟨aP,aQ,aR,aS,aT⟩:=LZ g.fl n es a;obtain⟨av,aw⟩:=L.app;have ax:og a g.fl:=by rw[aw];exact l.TG.app av
 have ay:∀x∈es,fN x.1=fm/\fM a n x.2:=λx o=>⟨(ao x o).1,by rw[aw];exact jl av n _ (ao x o).2⟩;have az:=λk:Nat=>rZ g.fl n (λc H E aU aV=>kQ g.fl n am c H E aU aV) (es.take k) a (L.exact l.exact) ax λx o=>ay x<|Aw o;have F:fv (es.map lL)=fv es:=by simp
 refine YU B.bt B.oD b.dr ow _ _ _ _ _ q (O q) (es.map lL) (qC g.fl n es a) (λk=>(mn g.fl n ((es[k]?).getD (kq,.file 0)).2 (lj g.fl n (es.take k) a).2).1) _ (whi w0 p A D W b ow g.fl n es a f q N t) (λJ=>vg w0 p A D W J b ow (kC (lj g.fl n es a).2 (lj g.fl n es a).1).2 f q (N+2*(es.map λx=>jd n x.2).sum+1) (gz A g.fl) t fm) (TC D ow) W aK aL aM aO (by rw[F];exact an) aP (λk d=>by rw[F]at d |-;exact aR k d) (λk d=>?_) (λk d=>?_) (λx M o=>?_) ?_ (λx o=>(K.Kf x o).2) ?_ ?_ ?_ ?_;have r:k<fv es:=by rw[F]at d;exact d
 rw[aS k r,yP];have r:k<fv es:=by rw[F]at d;exact d
 rw[aT k r,jG r,jI,yP];rfl;rw[Ed]at o;obtain⟨y,aW,rfl⟩:=jC.1 o;exact CG q ap (aH y aW) y.1 M;exact⟨D,f,fX,by simpa [lj]using K,sN.fK<|mi _ _,λ_ _=>rfl,(λj u _ h v=>aI h<|(qD _ _).trans v),λj u l=>absurd l<|Rq _⟩;rintro k af Y W3 ⟨P,f1,rfl,w,C,Q,R,S⟩ d;exact⟨P,f1,fX,w.aas K.below.size d,⟨⟨d.os.trans C.keeps.os,d.tape.trans C.keeps.tape,d.output.trans C.keeps.output,ww C.keeps.size d.size,λx o aX=>(d.block x (nz o C.keeps.size) (.inl o)).trans<|C.keeps.block x o aX⟩,C.own⟩,Q,R,S⟩;rintro k af Y ⟨P,f1,rfl,w,_⟩ x o;exact(w.Kf x o).2;rintro k d af Y ⟨P,f1,rfl,w,C,Q,R,S⟩;have r:k<fv es:=by rw[F]at d;exact d
 have aA:=kK r;obtain⟨G,_⟩:=az k;have aY:=hkh n es k r;have bo:=PB n es<|k+1
 have:=aJ es[k] aA P Y _ f1 _ w (L.trans G) (R k r<|lw _)<|by omega
 rw[yP,jG r,jI];refine this.mono ?_;rintro e J ⟨E,aB,f3,aC,Z,ag,aZ⟩;refine⟨E,TC aB ow,⟨aB,f3,fX,?_,C.trans Z,λh v=>?_,λj u bp h v=>?_,λj u bq h v=>?_⟩,Z⟩;rw[aY,vv r,kP];have V:N+2*((es.take k).map λx=>jd n x.2).sum+2*jd n (es[k]).2=N+2*(((es.take k).map λx=>jd n x.2).sum+jd n (es[k]).2):=by omega
 rwa [<-V];rw[ag h λl=>v<|(qD _ _).trans l,Q h v];have ah:(es[j]).1≠(es[k]).1:=by
  intro e
  have:=Rh.1 ad k j r u<|by omega
  rw[e,jb]at this;omega
 rw[ag h<|apart ah v];exact R j u (by omega) h v;rw[vv r,kP];have bb:=kQ g.fl n am (es[k]).2 (lj g.fl n (es.take k) a).2 (G.exact<|L.exact l.exact) (by obtain⟨ai,V⟩:=G.app;rw[V];exact jl ai n _ (ay _ aA).2) (by obtain⟨ai,V⟩:=G.app;rw[V];exact ax.app ai);by_cases bc:j=k;subst bc;exact aZ h v (λl=>by cases l);have ah:(es[j]).1≠(es[k]).1:=by
  intro e
  have:=Rh.1 ad j k u r<|by omega
  rw[e,jb]at this;omega
 obtain⟨X,aj⟩:=bb.dr.app
 have:=(S j u (by omega) h v).fn<|ag h (apart ah v)
 rw[aj];exact this.app (G.exact<|L.exact l.exact).sound X;rintro af Y bd ⟨P,f1,rfl,w,C,Q,R,S⟩ aa;rw[F]at w aa;rw[sL]at w;obtain⟨G,aD,ab,be⟩:=az<|fv es;rw[sL]at G aD ab be;rw[aQ]at aa;have aE:=yB g.fl n es a;have br:=w.few;obtain⟨⟨bs,bf⟩,bg⟩:=l.gQ w;have bh:wN (lj g.fl n es a).1:=⟨by rw[aE];exact an,λe E=>lop (a:=(lj g.fl n es a).2) (by omega) (ab e E).1 (ab e E).2.1 (ab e E).2.2.1⟩;rw[<-aE]at aa;refine(hjp bf bg w.Py (by omega) bd _ aa bh<|xK (vK aD ad)).mono ?_;rintro e J ⟨E,bi,d⟩;have bj:(kC (lj g.fl n es a).2 (lj g.fl n es a).1).2.length<=N+2*(es.map λx=>jd n x.2).sum+1:=by
  unfold kC;rcases gG (lj g.fl n es a).2 (lj g.fl n es a).1 with _|_
  simp;omega;simp;omega
 obtain⟨aC,Z⟩:=w.Pz bi d (Ha _) bj;refine⟨E,_,f1,aC,C.trans Z,Q,λh v bk=>?_⟩;obtain⟨y,rfl⟩:=v;intro bl ac U;cases y with
 |nil=>exact absurd (lJ q)<|bk fX
 |cons m y=>
  rw[Gm ae fX]at ac;rcases ak:jp es m with _|z
  rw[ak]at ac;cases ac;have bm:∃j,∃u:j<fv es,(es[j]).1=m:=by
   unfold jp at ak;obtain⟨bt,aF,_⟩:=EE.1 ak;obtain⟨j,u,al⟩:=rI<|Hv aF;exact⟨j,u,by rw[al];simpa using List.find?_some aF⟩
  obtain⟨j,u,al⟩:=bm;have aG:=S j u (by rw[F];exact u) (q++m::y) ⟨y,by rw[al];simp⟩;rw[F,sL]at aG;obtain⟨X,aj⟩:∃X,(kC (lj g.fl n es a).2 (lj g.fl n es a).1).2=(lj g.fl n es a).2++X:=by
   unfold kC;cases gG (lj g.fl n es a).2 (lj g.fl n es a).1 with
   |none=>exact⟨_,fX⟩
   |some _=>exact⟨[],by simp⟩
  have:=aG.app (G.exact<|L.exact l.exact).sound X
  rw[<-aj]at this;exact this bl (by rw[Gm ae fX];exact ac) U
theorem DF(C:wq T w0 s i p B A g I t):∀(n:Nat),n<=5->∀(c:LT)(q:fQ),fM A n c->t.at A q=fh c->Good q->fv q+n<=5->∀(h:fO)(D:Nat->Prop)(W:fq)(a:List Ob)(f:fQ->Option Int)(N:Nat),zl w0 p A D W b ow a f N->gK A a->(∀v,q <+: v->f v=fj)->N+2*jd n c<3000000->
  ik 74 #[fD #[ii B.bt,ii b.dr,.map<|fh ow],fD<|jn q,fD #[hZ h,fY c.kind,fY c.id]] W λe J=>e=fF (fY (mn g.fl n c a).1)/\vg w0 p A D W J b ow (mn g.fl n c a).2 f q (N+2*jd n c) (gz A g.fl) t fo:=by
 have R:∀(n:Nat),n<=5->∀(c:LT)(a:List Ob),gK A a->fM A n c->fM (mn g.fl n c a).2 5 (kW c.kind (mn g.fl n c a).1)/\uW (mn g.fl n c a).2 qX (kW c.kind (mn g.fl n c a).1) A (gz A g.fl) c:=by
  intro n E c a r d;obtain⟨M,S⟩:=r.app;have Z:=r.exact C.exact;have aa:fM a n c:=by rw[S];exact jl M n _ d
  have ab:og a g.fl:=by rw[S];exact C.TG.app M
  have O:=kQ g.fl n E c a Z aa ab;refine⟨Kl E O.kind O.high<|mh c,λy=>(Gu g.fl qX n E c a Z aa ab y).trans ?_⟩;rw[S,Mg C.TG M];exact ng C.exact.sound M _ y n _ d
 have H:∀(n:Nat)(c:LT)(q:fQ)(h:fO)(D:Nat->Prop)(W:fq)(a:List Ob)(f:fQ->Option Int)(N:Nat),zl w0 p A D W b ow a f N->t.at A q=fh c->fM A n c->((∃i,c=.file i)\/∃i,c=.dir i)->fJ A c.id≠0->mn g.fl n c a=(c.id,a)->
   ik 74 #[fD #[ii B.bt,ii b.dr,.map<|fh ow],fD<|jn q,fD #[hZ h,fY c.kind,fY c.id]] W λe J=>e=fF (fY (mn g.fl n c a).1)/\vg w0 p A D W J b ow (mn g.fl n c a).2 f q (N+2*jd n c) (gz A g.fl) t fo:=by
  intro n c q h D W a f N k j ag H ah P;rw[P];have hid:c.id≠0:=λe=>by have:=(np ah).1;omega
  refine(xL B.bt b.dr ow _ _ _ _ _ h c.kind c.id W hid).mono ?_;rintro e J ⟨U,V⟩;exact⟨U,(zm.fK k V<|cop _ _).nine λv ai X _ Q=>Zk C.exact.sound j ag H X Q⟩
 have ac:∀(n:Nat)(l:Nat)(q:fQ),t.at A q=fh (.held l)->Good q->∀(h:fO)(D:Nat->Prop)(W:fq)(a:List Ob)(f:fQ->Option Int)(N:Nat),zl w0 p A D W b ow a f N->gK A a->(∀v,q <+: v->f v=fj)->N+2<3000000->n<=5->mn g.fl n (.held l) a=kI (g.fl l) a->jd n (.held l)=1->
   ik 74 #[fD #[ii B.bt,ii b.dr,.map<|fh ow],fD<|jn q,fD #[hZ h,fY 1,fY 0]] W λe J=>e=fF (fY (mn g.fl n (.held l) a).1)/\vg w0 p A D W J b ow (mn g.fl n (.held l) a).2 f q (N+2*jd n (.held l)) (gz A g.fl) t fo:=by
  intro n l q j o h D W a f N k r u K E P d;have w:=R n E (.held l) a r (by rw[fM];trivial);rw[P]at w;rw[P,d];refine DD (T:=T) (g:=g) (I:=I) (t:=t) k o (u q<|sQ _) h 1 _ (N':=N+1) (by omega) j w λG L=>?_;refine TD B.bt b.dr ow _ _ _ _ _ _ _ G λan ad=>?_;refine(hj2 C ((k.via L).via ad) (by omega) o j).mono ?_;rintro e J ⟨U,V⟩;refine⟨U,(V.via ad).nine λv ai X aj Q=>?_⟩;obtain⟨y,rfl⟩:=X;rcases y with _|⟨m,y⟩
  exact absurd (lJ q)<|aj fX;rw[lx,j,wy,lh]at Q;cases Q
 have ae:∀(n:Nat)(es:Kids)(q:fQ)(h:fO)(D:Nat->Prop)(W:fq)(a:List Ob)(f:fQ->Option Int)(N N':Nat)(z:Int×List Ob),zl w0 p A D W b ow a f N->t.at A q=fh (.own es)->(fM z.2 5 (kW 2 z.1)/\uW z.2 qX (kW 2 z.1) A (gz A g.fl) (.own es))->Good q->(∀v,q <+: v->f v=fj)->N'<3000000->
   (∀G,ju W G->ik 147 #[fD #[ii B.bt,ii b.dr,.map<|fh ow],fD<|jn q,fY 2] G λe J=>e=fF (fY z.1)/\vg w0 p A D G J b ow z.2 f q N' (gz A g.fl) t fm)->
   ik 74 #[fD #[ii B.bt,ii b.dr,.map<|fh ow],fD<|jn q,fD #[hZ h,fY 2,fY 0]] W λe J=>e=fF (fY z.1)/\vg w0 p A D W J b ow z.2 f q (N'+1) (gz A g.fl) t fo:=by
  intro n es q h D W a f N N' z k j w o u K ak;exact DD (T:=T) (g:=g) (I:=I) (t:=t) k o (u q<|sQ _) h 2 _ (by omega) j w ak
 intro n
 induction n with
 |zero=>
  intro E c q d j o al h D W a f N k r u K;cases c with
  |file id=>exact H 0 (.file id) q h D W a f N k j d (.inl ⟨_,fX⟩) (by rw[fM]at d;show fJ A id≠0;rw[d];decide) (by rw[mn];rfl)
  |dir id=>exact H 0 (.dir id) q h D W a f N k j d (.inr ⟨_,fX⟩) (by rw[fM]at d;show fJ A id≠0;rw[d.1];decide) (by rw[mn];rfl)
  |held l=>exact ac 0 l q j o h D W a f N k r u (by grind [jd]) (by omega) (by rw[mn]) (by rw[jd])
  |own es=>
   have w:=R 0 (by omega) (.own es) a r d;rw[fM]at d;subst d;have Y:jd 0 (.own [])=1:=by rw[jd]
   rw[Y]at K |-;have O:mn g.fl 0 (.own []) a=kC a []:=by rw[mn]
   rw[O]at w |-;refine ae 0 [] q h D W a f N (N+1) (kC a []) k j w o u (by omega) λG L=>?_;exact Km C 0 (by omega) (es:=[]) List.Pairwise.nil (by simp) (λx F=>by cases F) j o (λx F=>by cases F) (k.via L) r u (by simp;omega) (λx F=>by cases F)
 |succ n ao=>
  intro E c q d j o al h D W a f N k r u K;cases c with
  |file id=>exact H _ (.file id) q h D W a f N k j d (.inl ⟨_,fX⟩) (by rw[fM]at d;show fJ A id≠0;rw[d];decide) (by rw[mn];rfl)
  |dir id=>exact H _ (.dir id) q h D W a f N k j d (.inr ⟨_,fX⟩) (by rw[fM]at d;show fJ A id≠0;rw[d.1];decide) (by rw[mn];rfl)
  |held l=>exact ac _ l q j o h D W a f N k r u (by grind [jd]) (by omega) (by rw[mn]) (by rw[jd])
  |own es=>
   have w:=R (n+1) E (.own es) a r d;rw[fM]at d;have Y:jd (n+1) (.own es)=1+(es.map λx=>jd n x.2).sum:=by rw[jd]
   rw[Y]at K |-;rw[uA]at w |-;have am:N+2*(1+(es.map λx=>jd n x.2).sum)=N+2*(es.map λx=>jd n x.2).sum+1+1:=by omega
   rw[am];refine ae n es q h D W a f N _ (kC (lj g.fl n es a).2 (lj g.fl n es a).1) k j w o u (by omega) λG L=>?_;refine Km C n (by omega) (es:=es) d.1 d.2.1 d.2.2 j o (λx F=>by omega) (k.via L) r u (by omega) λx F D W a f N ap aq ar au=>?_;have av:Good (q++[x.1]):=⟨o.val.append (λy af=>by simp at af;rw[af];exact(d.2.2 x F).1),by simp;omega⟩
   grind [hir]
def Eo{P:Program}(w)(t a e:ni)(i:TypeInfo)(b:P.underlying t=fh (.slice e))(U:P.info? e=fh i):(Builtin.append_ #[t,t] a #[fy fj 0 0,fy fj 0 0]).run P w=.ok (fy fj 0 0) w:=by
 simp[Builtin.append_,coe b,sizeOf,typeInfo,U,Builtin.lenOf,Builtin.firstCells]
theorem vh{P:Program}{m:Array Oper}{o:Oper}{a:Act}{p:Act->fq->Prop}{D:Exit->Act->fq->Prop}{E:Prop}
  (F:o.guard=fj)(s x:Operand)(t:ni)(q:o.op=Op.call { callee:=Callee.builtin Builtin.append,args:=#[s,x],argTypes:=#[t,t] })
  (e:ni)(i:TypeInfo)(z:fu)(b bytes:Nat)(r:P.underlying t=fh (.slice e))(u:P.info? e=fh i)(G:i.zero=fh z)(H:i.size=b)(I:i.bytes=bytes)(K:z.cells.size=b)(L:0<b)
  (v:a.eval s=fy fj 0 0)(y:iD)(n c)(f)(A:a.eval x=fy y n c)(j:w.ownsRow 0 e b (fy y n c) n f)(M:∀N∈f,N.oneCell'=fm)
  (S:n<=maxLen)(T:n*bytes<=140737488355328)
  (B:∀d J,J.ownsRow 0 e b d n f->w.grownBy J fj->(d.ownBlock=fj\/d.ownBlock=fh w.heap.size)->p (a.put o.dst d) J):
  if Region.wanted o (yielded m a.tmps)=fm then Oper.wp P o a w p D else E:=by
 have O:Region.wanted o (yielded m a.tmps)=fm:=by simp[Region.wanted,F]
 rw[lv O];rcases j.2 with⟨k,U⟩|⟨g,h,V,k,_⟩
 cases k;have l:=Eo (P:=P) w t o.type e i r u;unfold Oper.wp;simp[execOp,q,resolve,invoke,builtin,v,A,l,Result.andThen];exact B _ _ j ⟨fX,fX,fX,lw _,λ_ _ _=>rfl⟩<|.inl fX;cases k;have⟨d,J,l,C,Q,_,R⟩:=slt (P:=P) w 0 t o.type e i z b bytes r u G H I K L (fy fj 0 0) 0 [] (jY w _ e b) (ie g 0) n c f j.1 (j.cells (g:=g) fX) M (by omega) (by grind)<|Fr _;rw[iR,HL]at C;unfold Oper.wp;simp[execOp,q,resolve,invoke,builtin,v,A,l,Result.andThen];exact B _ _ C Q R
theorem gm.aat(a:gm F w S na da nc dc E data rest)(b:Nat)(d:fu):
  gm F (w.setCell (ie S<|2+b) d) S na da nc dc E data (rest.set b d)/\fH F w (w.setCell (ie S<|2+b) d):=by
 have f:∀g,g≠S->(w.setCell (ie S<|2+b) d).heap[g]?=w.heap[g]?:=λg c=>sI _ _ _ _ c;refine⟨⟨a.fS,?_,gg a.lU λg c=>f g λe=>?_,gg a.jm λg c=>f g λe=>?_,a.fn,a.fd⟩,⟨fX,fX,fX,by simp,λk j h=>f k λe=>h (by rw[e];exact a.fS)⟩⟩;have i:(2+b)=b+1+1:=by omega
 simp[World.setCell,ED,a.hS,i];subst e;exact il a.lU a.hS (by decide) c.symm;subst e;exact il a.jm a.hS (by decide) c.symm
abbrev St:=List fV×fQ
def iU (a b:fO):fO:=if a.toList=[]then b else a++⟨#[47]⟩++b
def Ag (O:List Ob)(i:Int):fO:=((O[i.toNat]?).map (λo:Ob=>o.data)).getD ⟨#[]⟩
def EA (O:List Ob)(i:Nat):List fV:=((O[i]?).map (λo:Ob=>o.gh)).getD []
def Kd (O:List Ob)(rec:Nat->fO->St->St)(b:fO)(a:St)(e:fV):St:=
 if e.2.1=1 then(a.1++[(iU b e.1,1,(fv a.2:Int))],a.2++[Ag O e.2.2])else rec e.2.2.toNat (iU b e.1) (a.1++[(iU b e.1,2,0)],a.2)
def jx (O:List Ob):Nat->Nat->fO->St->St
 |0,_,_,a=>a
 |fuel+1,at_,b,a=>(EA O at_).foldl (Kd O (jx O fuel) b) a
def sB (a b:St):Prop:=fv a.1<=fv b.1/\fv a.2<=fv b.2
def sB.trans{a b c:St}(d:sB a b)(k:sB b c):sB a c:=⟨ww d.1 k.1,ww d.2 k.2⟩
def zn(O)(rec:Nat->fO->St->St)(c:∀i p a,sB a<|rec i p a)(b)(a:St)(e):sB a (Kd O rec b a e):=by
 unfold Kd;split;exact⟨by simp,by simp⟩
 have:=c e.2.2.toNat (iU b e.1) (a.1++[(iU b e.1,2,0)],a.2)
 exact⟨ww (by simp) this.1,this.2⟩
theorem Ah(O)(rec:Nat->fO->St->St)(c:∀i p a,sB a<|rec i p a)(b):∀(d:List fV)(a:St),sB a<|d.foldl (Kd O rec b) a
 |[],a=>⟨lw _,lw _⟩
 |e::f,a=>(zn O rec c b a e).trans<|Ah O rec c b f _
def Ai(O):∀(fuel i:Nat)(p:fO)(a:St),sB a<|jx O fuel i p a
 |0,_,_,_=>⟨lw _,lw _⟩
 |fuel+1,i,p,a=>Ah O _ (Ai O fuel) p _ a
theorem gm.aaB(a:gm F w S na da nc dc E data rest){g b:Nat}(e:J.heap[S]?=fh (.cells ((Value.slice na (fv E) nc::Value.slice da (fv data) dc::rest).toArray.setIfInBounds 1<|my g 0 (fv data+1) b) 179 (0,0))/\
   J.ownsRow 0 9 1 (my g 0 (fv data+1) b) (fv data+1) (gN data++[hZ x])/\((fh g:Option Nat)=(Value.slice da (fv data) dc).ownBlock\/w.heap.size<=g)/\fH (λk=>k=S\/fh k=(Value.slice da (fv data) dc).ownBlock) w J):
  gl (kB F w J) J S E (data++[x]) rest/\fH F w J:=by
 have⟨j,f,h,d⟩:=e;have i:fv (data++[x])=fv data+1:=by simp
 refine⟨⟨na,nc,fh<|ie g 0,b,⟨.inl a.fS,?_,?_,?_,?_,?_⟩⟩,uv d a.fS a.fd⟩
 grind
 exact nC a.lU d a.hS (by decide) λg c=>PH a.lU a.jm (by decide) c
 grind [gN]
 intro g c;exact .inl<|a.fn g c;rw[i];exact AH f h a.fd
theorem gl.DG{F b:Nat->Prop}(a:gl F w S E data rest)(hF:∀k,F k->b k):gl b w S E data rest:=by
 have⟨na,nc,da,dc,a⟩:=a;exact⟨na,nc,da,dc,a.keep hF λ_ _=>rfl⟩
theorem Qc{nc dc a c c4 b:Nat}{x}{q}(d:gm (kB F w1 wr) wr S na da nc dc M ds rest)(e:fH F w1 wr)(g:a=fv M)
  (h:w4.ownsRow 0 200 3 (my c 0 (a+1) c4) (a+1) (flat M++pB x))(j:((wr.drewN q).alloc o).grownBy w4 (Value.slice na a nc).ownBlock)(l:(Value.slice (fh<|ie c 0) (a+1) c4).ownBlock=(Value.slice na a nc).ownBlock\/(Value.slice (fh<|ie c 0) (a+1) c4).ownBlock=fh b)(m:wr.heap.size<=b:=by simp):
  gl (kB F w1<|w4.setCell (ie S 0) (my c 0 (a+1) c4)) (w4.setCell (ie S 0)<|my c 0 (a+1) c4) S (M++[x]) ds rest/\fH F w1 (w4.setCell (ie S 0)<|my c 0 (a+1) c4):=by
 subst g;have n:=jh (i:=0) d.hS d.lU (by decide) (ox wr q o) (by simp) ⟨fX,fX,fX⟩ h j l m;have⟨p,f⟩:=d.push n;have r:=iW e f;exact⟨p.DG λk s=>nD e.size f.size s,r⟩
theorem Ko{nc dc nd a c4 b:Nat}{q}(c:gm (kB F w1 wr) wr S na da nc dc M ds rest)(d:fH F w1 wr)(f:nd=fv ds)
  (g:w4.ownsRow 0 9 1 (my a 0 (nd+1) c4) (nd+1) (gN ds++[hZ x]))(h:((wr.drewN q).alloc o).grownBy w4 (Value.slice da nd dc).ownBlock)(j:(Value.slice (fh<|ie a 0) (nd+1) c4).ownBlock=(Value.slice da nd dc).ownBlock\/(Value.slice (fh<|ie a 0) (nd+1) c4).ownBlock=fh b)(l:wr.heap.size<=b:=by simp):
  gl (kB F w1<|w4.setCell (ie S 1) (my a 0 (nd+1) c4)) (w4.setCell (ie S 1)<|my a 0 (nd+1) c4) S M (ds++[x]) rest/\fH F w1 (w4.setCell (ie S 1)<|my a 0 (nd+1) c4):=by
 subst f;have m:=jh (i:=1) c.hS c.jm (by decide) (ox wr q o) (by simp) ⟨fX,fX,fX⟩ g h j l;have⟨n,e⟩:=c.aaB m;have p:=iW d e;exact⟨n.DG λk r=>nD d.size e.size r,p⟩
theorem Zl{nc dc a c c4 b:Nat}{x}(d:gm (kB F w1 wr) wr S na da nc dc M ds rest)(e:fH F w1 wr)(g:a=fv M)
  (h:w4.ownsRow 0 200 3 (my c 0 (a+1) c4) (a+1) (flat M++pB x))(j:(wr.alloc o).grownBy w4 (Value.slice na a nc).ownBlock)(l:(Value.slice (fh<|ie c 0) (a+1) c4).ownBlock=(Value.slice na a nc).ownBlock\/(Value.slice (fh<|ie c 0) (a+1) c4).ownBlock=fh b)(m:wr.heap.size<=b:=by simp):
  gl (kB F w1<|w4.setCell (ie S 0) (my c 0 (a+1) c4)) (w4.setCell (ie S 0)<|my c 0 (a+1) c4) S (M++[x]) ds rest/\fH F w1 (w4.setCell (ie S 0)<|my c 0 (a+1) c4):=by
 subst g;have n:=jh (i:=0) d.hS d.lU (by decide) (Sx wr o) (by simp) ⟨fX,fX,fX⟩ h j l m;have⟨p,f⟩:=d.push n;have q:=iW e f;exact⟨p.DG λk r=>nD e.size f.size r,q⟩
def Ml(a b):(iU a b).size<=a.size+1+b.size:=by
 unfold iU;split;omega;rw[Wl,Wl];exact lw _
def rcc (O:List Ob)(rest:gX)(S c fuel:Nat):Prop:=∀(at_:Nat)(a:fO)(b:St)(F d:Nat->Prop)(w:fq),at_<fuel->at_<fv O->a.size+13*fuel<=100000->
  (jx O fuel at_ a b).1.length<=1000000000->(jx O fuel at_ a b).2.length<=1000000000->gl F w S b.1 b.2 rest->gi d w c O->(∀k,d k->k<w.heap.size/\¬F k)->(∀k,F k->k<w.heap.size)->
  Calls prog 89 #[fB<|fh ⟨S,0,fj⟩,fB<|fh ⟨c,0,fj⟩,.int .i64 (at_:Int),fA a] w λe J=>e=fF (fC #[])/\gl (kB F w J) J S (jx O fuel at_ a b).1 (jx O fuel at_ a b).2 rest/\fH F w J
theorem hlr(O)(rest)(S H)(bQ:gR O)(bR:∀o∈O,∀e∈o.gh,e.1.size<=12)(fuel)(aT:rcc O rest S H fuel):rcc O rest S H (fuel+1):=by
 intro at_ f r F v w cK T cL bS bT aU bU aV aW;have⟨aX,aY,aZ,bb,bc⟩:=kM uJ;have⟨bV,bW,bX,bY,U⟩:=kM uF;have⟨cN,cO,D⟩:=bU;have bd:=D.c0;have cQ:=D.lt;have bZ:=D.many;have⟨cS,ca,cT,be,bf,bg,bh⟩:=mW D.row fX T;subst ca;have V:=D.zx _<|kK T;obtain⟨p,I⟩:=oX<|O[at_].gh;have ay:fv p=O[at_].el:=by rw[I];exact V.len
 have cb:O[at_].el<=16:=V.few;have bi:fe (jx O (fuel+1) at_ f r=p.foldl (Kd O (jx O fuel) f) r):=by
  show _=_;simp only[jx,EA,jG T,qA,jI];rw[I]
 have cc:fe (∀e∈p,0<=e.2.2/\e.2.2<(at_:Int)):=by rw[I];exact bQ at_ T
 have cd:fe (∀e∈p,e.1.size<=12):=by rw[I];exact bR _<|kK T
 have az:fe (gi v w H O):=⟨_,_,D⟩;have GC:fe (∀k,v k->k<w.heap.size/\¬F k):=aV;have ce:fe (gl F w S r.1 r.2 rest):=aU;have K:fe (∀k,F k->k<w.heap.size):=aW;have cf:fe _:=aT;have bj:fe ((p.foldl (Kd O (jx O fuel) f) r).1.length<=1000000000/\(p.foldl (Kd O (jx O fuel) f) r).2.length<=1000000000):=by rw[<-bi.o];exact⟨bS,bT⟩
 have bk:fe (w.ownsRow 0 112 3 (fy O[at_].ea O[at_].el O[at_].ec) O[at_].el<|flat p):=by rw[I];exact V.row
 have L:fe (∀g,(Value.slice O[at_].ea O[at_].el O[at_].ec).ownBlock=fh g->v g):=V.own;obtain⟨n,aA⟩:=oX<|O[at_].el;obtain⟨aB,bl⟩:=oX<|O[at_].ea;obtain⟨M,bm⟩:=oX<|O[at_].ec;obtain⟨cg,bn⟩:=oX<|O[at_].kind;obtain⟨ch,bo⟩:=oX<|O[at_].data;obtain⟨ci,bp⟩:=oX<|O[at_].high;rw[<-aA,<-bl,<-bm]at bk L bg;rw[<-aA]at ay cb;rw[<-bn]at be;rw[<-bo]at bf;rw[<-bp]at bh;have bq:fe (fv p=n):=ay;obtain⟨aC,aD⟩:=oX<|fv O;have cj:fe (aC=fv O):=aD;rw[<-aD]at bd bZ;have cU:(at_:Int)<(aC:Int):=by omega
 clear aT aW D V I ay aU aV aA bl bm bn bo bp aD;go_enter func89,ntmps89;go_wp2;obtain⟨B,N⟩:=oX (.cells #[fY cg,hZ ch,fy aB n M,fY ci] 108:Obj);obtain⟨w1,W⟩:=oX<|w.alloc B;have A:ju w w1:=by rw[W];exact(mi _ _).alloc (lw _) B
 have br:w1.c w.heap.size 2=fh (fy aB n M):=by rw[W,N];simp
 have X:w.heap.size<w1.heap.size:=by rw[W];simp
 rw[<-N,<-W];clear N W;have ck:fe (gl F w1 S r.1 r.2 rest):=by
  have⟨na,nc,da,dc,l⟩:=ce.o;exact⟨na,nc,da,dc,l.below A⟩
 go_loopw [9] (λi wr=>∃(k:Nat) (b:St),k<=n/\i=.int .i64 (k:Int)/\fe (b=(p.take k).foldl (Kd O (jx O fuel) f) r)/\fe (gl (kB F w1 wr) wr S b.1 b.2 rest)/\fe (fH F w1 wr)) (λi _=>n-(intOf i).toNat)
 case atStart=>exact⟨0,r,Fr _,rfl,rfl,ck.o.DG λ_ l=>.inl l,fH.refl _⟩
 case round=>
  obtain⟨k,b,cV,rfl,bs,bt,t⟩:=hrel;have cW:w1.heap.size<=wr.heap.size:=t.o.size;have aE:wr.c w.heap.size 2=fh (fy aB n M):=(wJ (a:=(ie w.heap.size 2))<|t.o.block w.heap.size X (λy=>by have:=K.o _ y;omega)).trans br;have cl:gi v wr H O:=az.o.keep (λ_ l=>l) λq j=>(t.o.block q (by have:=(GC.o q j).1;omega) (GC.o q j).2).trans<|A.block q (GC.o q j).1;have cX:fe (gi v wr H O):=cl;by_cases cm:k<n
  ·have ai:k<fv p:=by rw[bq.o];exact cm
   have aj:=gg bk.o (J:=wr) λg aF=>(t.o.block g (by have:=(GC.o g<|L.o g aF).1;omega) (GC.o g<|L.o g aF).2).trans<|A.block g (GC.o g<|L.o g aF).1;have⟨d,cY,bu⟩:=hh aj (by omega);have cn:=(lK bu).1;subst cn;have cZ:=gc aj fX;have⟨ak,Y,Z⟩:=lr (off:=0) (ks aj) ai;rw[iR]at ak Y Z;obtain⟨e,aa⟩:=oX<|p[k];rw[<-aa]at ak Y Z;have⟨db,dd⟩:=cc.o e (by rw[aa];exact kK ai);have de:=cd.o e (by rw[aa];exact kK ai);obtain⟨m,aG⟩:∃m:Nat,e.2.2=(m:Int):=⟨e.2.2.toNat,by omega⟩;rw[aG]at Z;have df:m<at_:=by omega
   have aH:fe ((p.take<|k+1).foldl (Kd O (jx O fuel) f) r=Kd O (jx O fuel) f b e):=by
    show _=_;rw[vv ai,cmd,<-bs.o,<-aa];rfl
   have bv:fe (sB (Kd O (jx O fuel) f b e)<|p.foldl (Kd O (jx O fuel) f) r):=by
    have al:p=p.take (k+1)++p.drop (k+1):=(KU _ _).symm
    have:=Ah O (jx O fuel) (Ai O fuel) f (p.drop<|k+1)<|Kd O (jx O fuel) f b e
    show sB _ _;rw[<-aH.o]at this |-;rw[<-cmd,<-al]at this;exact this
   have bw:fe (e.2.2=(m:Int)):=aG;have bx:(k:Int)<(n:Int):=by omega
   have⟨na,nc,da,dc,ab⟩:=bt.o;have E:=ab.c0;have ac:=ab.c1;have aI:=ab.lt;have P:fe (gm (kB F w1 wr) wr S na da nc dc b.1 b.2 rest):=ab;obtain⟨x,aJ⟩:=oX<|fv b.1;obtain⟨nd,oh⟩:=oX<|fv b.2;have am:fe (x=fv b.1):=aJ;have ad:fe (nd=fv b.2):=oh;rw[<-aJ]at E;rw[<-oh]at ac;have dg:x<=1000000000/\nd<=1000000000:=by
    have cp:=zn O (jx O fuel) (Ai O fuel) f b e;have bz:=cp.trans bv.o
    have:=bj.o
    exact⟨by have:=bz.1;omega,by have:=bz.2;omega⟩
   clear aj bu ab aa aG aJ oh;obtain⟨h,bA⟩:=oX<|iU f e.1;have ae:fe (h=iU f e.1):=bA;have bB:fe (wr.c d (k*3+2)=fh (fY (m:Int))):=Z;have an:fe (wr.ownsRow 0 200 3 (fy na x nc) x<|flat b.1):=by show World.ownsRow _ _ _ _ _ _ _;rw[am.o];exact P.o.lU
   have bC:fe (wr.c S 0=fh (fy na x nc)):=E;have cq:fe (wr.c S 1=fh (fy da nd dc)):=ac;clear Z bA be bf bg bh bd E ac br;go_upto_if 32 with fail
   go_cut [10]from 18 to 102 λcr z=>cr=fA h/\z=wr
   case first=>
    cases af:(f.toList==[]) with
    |true=>
     have aK:fe (h=e.1):=Hc<|by rw[ae.o];unfold iU;rw[lv<|eq_of_beq af]
     have aL:(!f.toList.isEmpty)=fo:=by rw[eq_of_beq af];rfl
     go_wp2_with fail
     all_goals first
      |(exfalso;rename (! _)=_=>GD;rw[aL]at GD;cases GD;done)
      |(go_meet;exact⟨by rw[aK.o],fX⟩)
    |false=>
     have aK:fe (h=f++⟨#[47]⟩++e.1):=Hc<|by rw[ae.o];unfold iU;rw[km<|EF.1 af]
     have aL:(!f.toList.isEmpty)=fm:=by
      cases ct:f.toList with
      |nil=>rw[ct]at af;cases af
      |cons _ _=>rfl
     go_wp2_with fail
     all_goals first
      |(exfalso;rename (! _)=_=>GD;rw[aL]at GD;cases GD;done)
      |(go_meet;exact⟨by rw[aK.o],fX⟩)
   case rest=>
    obtain⟨rfl,aM⟩:=hcut;have dh:fe (wc=wr):=aM;rw[aM];clear aM;have bD:fe (wr.c w.heap.size 2=fh (my d 0 n M)):=aE;by_cases Q:e.2.1=1
    ·rw[Q]at Y
     have ao:fe (Kd O (jx O fuel) f b e=(b.1++[(h,1,(nd:Int))],b.2++[Ag O (m:Int)])):=Hc<|by unfold Kd;rw[lv Q,<-ae.o,bw.o,ad.o]
     clear Q;go_upto_region 8 with fail;have E:=bC.o;have ac:=cq.o;clear ak Y aE
     go_cut []from 18 to 102 λz=>fe<|gl (kB F w1 z) z S (b.1++[(h,1,(nd:Int))]) b.2 rest/\fH F w1 z
     case first=>
      go_region_law(refine pw fX (.tmp 48) (.tmp 56) 174 fX 0 200 aX _ 3 32 underlying174 aY aZ bb bc fX (by decide) (fy na x nc) x (flat b.1) (by simp[Act.eval]) (rJ (show(wr.drewN 1).ownsRow _ _ _ _ _ _ from an.o) _) (ie wr.heap.size 0) 1 1 (pB (h,1,(nd:Int))) (by simp[Act.eval]) fX (ub (wr.drewN 1) (h,1,(nd:Int)) _ _ fX) (se _) (by unfold maxLen;omega) (by omega) (Fr _) ?_;intro v4 w4 bE aN cu;obtain⟨di,c4,rfl⟩:=hh bE (by omega);have bF:=mX P.o.hS (ox wr 1 _) (by simp) aN<|il an.o P.o.hS (by decide);have dj:w4.c S 0=fh (fy na (fv b.1) nc):=(by simp[World.cell?,bF]);have dk:w4.frozen? (ie S 0)=fo:=(by simp[World.frozen?,bF]);have dl:S<w4.heap.size:=(nz aI (by have:=aN.size;simp at this;omega)))
      all_goals
       go_wp2_with fail;go_meet;exact Qc P.o t.o am.o bE aN cu
     case rest=>
      rename fq=>c;have⟨⟨cv,cw,ap,aq,C⟩,ag⟩:=hcut.o;have s:fe (fH F w1 c):=ag;have ar:fe (gm (kB F w1 c) c S cv ap cw aq (b.1++[(h,1,(nd:Int))]) b.2 rest):=C;have cx:=C.c1;have cy:=C.lt;rw[<-ad.o]at cx;have ah:∀q,v q->c.heap[q]?=w.heap[q]?:=λq j=>(s.o.block q (by have:=(GC.o q j).1;omega) (GC.o q j).2).trans<|A.block q (GC.o q j).1;have⟨dm,dn,au⟩:=az.o.keep (J:=c) (λ_ l=>l) ah;have cz:=au.c0;have dp:=au.lt;rw[<-cj.o]at cz;have bG:m<fv O:=by omega
      have⟨dq,cA,dr,_,d1,_,_⟩:=mW au.row fX bG;subst cA;have bH:fe (Ag O (m:Int)=O[m].data):=Hc<|by unfold Ag;rw[qI,jG bG];rfl
      obtain⟨cC,bI⟩:=oX<|O[m].data;rw[<-bI]at d1 bH;have cD:c.c w.heap.size 2=fh (my d 0 n M):=(wJ (a:=(ie w.heap.size 2))<|(s.o.block w.heap.size X (λy=>by have:=K.o _ y;omega)).trans (t.o.block w.heap.size X (λy=>by have:=K.o _ y;omega)).symm).trans bD.o;have u:v d:=L.o d fX;have cE:c.c d (k*3+2)=fh (fY (m:Int)):=(wJ (a:=(ie d<|k*3+2))<|(ah d u).trans ((t.o.block d (by have:=(GC.o d u).1;omega) (GC.o d u).2).trans<|A.block d (GC.o d u).1).symm).trans bB.o;have cF:d<c.heap.size:=by have:=(GC.o d u).1;have:=s.o.size;omega
      have bJ:w.heap.size<c.heap.size:=by have:=s.o.size;omega
      have ds:(m:Int)<(aC:Int):=(by omega);have bK:fe (c.ownsRow 0 9 1 (fy ap nd aq) nd<|gN b.2):=by show World.ownsRow _ _ _ _ _ _ _;rw[ad.o];exact C.jm
      clear hcut C ag au bI E ac aI;go_upto_region 9 with fail
      go_region_law(refine pw fX (.tmp 64) (.tmp 78) 131 fX 0 9 bV _ 1 16 underlying131 bW bX bY U fX (by decide) (fy ap nd aq) nd (gN b.2) (by simp[Act.eval]) (rJ (show(c.drewN 1).ownsRow _ _ _ _ _ _ from bK.o) _) (ie c.heap.size 0) 1 1 [hZ cC] (by simp[Act.eval]) fX (one_cell (c.drewN 1) _ _ _ fX) Bi (by unfold maxLen;omega) (by omega) (Fr _) ?_;intro dt G aO av bL;obtain⟨du,dv,rfl⟩:=hh aO (by omega);have bM:=mX ar.o.hS (ox c 1 _) (by simp) av<|il bK.o ar.o.hS (by decide);have dw:G.c S 1=fh (fy ap (fv b.2) aq):=(by simp[World.cell?,bM]);have f16:G.frozen? (ie S 1)=fo:=(by simp[World.frozen?,bM]);have dx:S<G.heap.size:=(nz cy (by have:=av.size;simp at this;omega)))
      all_goals
       go_wp2_with fail;refine⟨⟨k+1,Kd O (jx O fuel) f b e,by omega,by go_num,aH.o.symm,?_,?_⟩,by simp[intOf];omega⟩;show gl _ _ _ _ _ _;rw[ao.o,bH.o];exact(Ko ar.o s.o ad.o aO av bL).1;exact(Ko ar.o s.o ad.o aO av bL).2
    have cG:(e.2.1==1)=fo:=(by simp[Q]);have ao:fe (Kd O (jx O fuel) f b e=jx O fuel m h (b.1++[(h,2,0)],b.2)):=Hc<|by unfold Kd;rw[km Q,bw.o,qI,<-ae.o]
    have E:=bC.o;go_upto_region 10 with fail
    go_cut []from 18 to 102 λz=>fe<|gl (kB F w1 z) z S (b.1++[(h,2,0)]) b.2 rest/\fH F w1 z
    case first=>
     go_wp2_with(at_builtin;refine yi fX (.tmp 86) (.tmp 89) 174 fX 0 200 aX _ 3 32 underlying174 aY aZ bb bc fX (by decide) (fy na x nc) x (flat b.1) fX (rJ an.o _) (ie wr.heap.size 0) 1 1 (pB (h,2,0)) fX fX (ub wr (h,2,0) _ _ fX) (se _) (by unfold maxLen;omega) (by omega) (Fr _) ?_);intro dy aw aP ax bN;obtain⟨dz,c3,rfl⟩:=hh aP (by omega);have U:=P.o.hS;have aQ:=mX U (Sx _ _) (by simp) ax<|il an.o U (by decide);have dA:wr.heap.size<=aw.heap.size:=by have:=ax.size;simp at this;omega
     have dB:aw.c S 0=fh (fy na x nc):=by rw[am.o];simp[World.cell?,aQ]
     have dC:aw.frozen? (ie S 0)=fo:=(by simp[World.frozen?,aQ]);have dD:S<aw.heap.size:=by omega
     have R:fe _:=Zl P.o t.o am.o aP ax bN;clear aP ax bN aQ U;go_wp2_with fail;go_meet;exact R.o
    case rest=>
     rename fq=>c;have⟨C,ag⟩:=hcut.o;have s:fe (fH F w1 c):=ag;have ah:∀q,v q->c.heap[q]?=w.heap[q]?:=λq j=>(s.o.block q (by have:=(GC.o q j).1;omega) (GC.o q j).2).trans<|A.block q (GC.o q j).1;have dE:w1.heap.size<=c.heap.size:=s.o.size;have cD:c.c w.heap.size 2=fh (my d 0 n M):=(wJ (a:=(ie w.heap.size 2))<|(s.o.block w.heap.size X (λy=>by have:=K.o _ y;omega)).trans (t.o.block w.heap.size X (λy=>by have:=K.o _ y;omega)).symm).trans bD.o;have u:v d:=L.o d fX;have cE:c.c d (k*3+2)=fh (fY (m:Int)):=(wJ (a:=(ie d<|k*3+2))<|(ah d u).trans ((t.o.block d (by have:=(GC.o d u).1;omega) (GC.o d u).2).trans<|A.block d (GC.o d u).1).symm).trans bB.o;have cF:d<c.heap.size:=by have:=(GC.o d u).1;omega
     have bJ:w.heap.size<c.heap.size:=(by omega);have cH:fe (ik 89 #[ii S,ii H,fY (m:Int),hZ h] c λcI J=>cI=qr #[]/\gl (kB (kB F w1 c) c J) J S (jx O fuel m h (b.1++[(h,2,0)],b.2)).1 (jx O fuel m h (b.1++[(h,2,0)],b.2)).2 rest/\fH (kB F w1 c) c J):=by
      have N:=bj.o;have aR:=bv.o;rw[ao.o]at aR;have cJ:=Ml f e.1;rw[<-ae.o]at cJ;refine cf.o m h (b.1++[(h,2,0)],b.2) (kB F w1 c) v c (by omega) (by omega) (by omega) (ww aR.1 N.1) (ww aR.2 N.2) C (az.o.keep (λ_ l=>l) ah) (λq j=>⟨by have:=(GC.o q j).1;omega,?_⟩) λq j=>?_;rintro(l|⟨l,_⟩);exact(GC.o q j).2 l
      have:=(GC.o q j).1
      omega;rcases j with l|⟨_,l⟩
      have:=K.o q l
      omega;exact l
     clear hcut C ag E aI aE ak Y Q cG;go_wp2_with fail;refine Hk cH.o λG⟨bO,aS⟩=>?_
     have R:fe (gl (kB F w1 G) G S (jx O fuel m h (b.1++[(h,2,0)],b.2)).1 (jx O fuel m h (b.1++[(h,2,0)],b.2)).2 rest/\fH F w1 G):=⟨bO.DG λq j=>nD s.o.size aS.size j,iW s.o aS⟩;clear bO aS;go_wp2;refine⟨⟨k+1,Kd O (jx O fuel) f b e,by omega,by go_num,aH.o.symm,?_,R.o.2⟩,by simp[intOf];omega⟩;show gl _ _ _ _ _ _;rw[ao.o];exact R.o.1
  have bx:k=n:=by omega
  subst bx;have dF:decide ((k:Int)<(k:Int))=fo:=by simp
  have R:fe (gl (kB F w wr) wr S (jx O (fuel+1) at_ f r).1 (jx O (fuel+1) at_ f r).2 rest/\fH F w wr):=by
   have al:=bs.o;rw[oM (by rw[bq.o];exact lw _),<-bi.o]at al;rw[<-al];exact⟨bt.o.DG (λq j=>by rcases j with l|l;exact .inl l;exact .inr ⟨by omega,l.2⟩),fH.after t.o A⟩
  have bJ:w.heap.size<wr.heap.size:=by omega
  go_wp2;go_end0;exact⟨fX,R.o⟩
theorem lub(O)(rest:gX)(S c)(f:gR O)(g:∀o∈O,∀e∈o.gh,e.1.size<=12):∀(fuel at_:Nat)(a:fO)(b:St)(F d:Nat->Prop)(w:fq),at_<fuel->at_<fv O->a.size+13*fuel<=100000->
  (jx O fuel at_ a b).1.length<=1000000000->(jx O fuel at_ a b).2.length<=1000000000->gl F w S b.1 b.2 rest->gi d w c O->(∀k,d k->k<w.heap.size/\¬F k)->(∀k,F k->k<w.heap.size)->
  ik 89 #[ii S,ii c,fY (at_:Int),hZ a] w λe J=>e=qr #[]/\gl (kB F w J) J S (jx O fuel at_ a b).1 (jx O fuel at_ a b).2 rest/\fH F w J:=by
 intro fuel
 induction fuel with
 |zero=>intro at_ a b F d w h;exact absurd h<|Rq _
 |succ fuel i=>exact hlr O rest S c f g fuel i
