/- A part of the proof. -/
import Derived.Test.YtlgidcmmgohagaaGreatComM20
import Derived.Test.YtlgidcmmgohagaaGreatComM21
set_option linter.all false
namespace Go.Proofs.YtlgidcmmgohagaaGreat
open Go.RowKit Go.Sort Go.Shelf Go.Proofs.Tryz
open Go.Value renaming slice->fy,string->fA,pointer->fB,tuple->fC,agg->fD,bool->fE
open Go.Ending renaming returned->fF
open Option renaming some->fh,none->fj
open Bool renaming true->fm,false->fo
open Go renaming World->fq,Value->fu
open List renaming length->fv,reverse->fx
open Go.RowKit renaming Hid->fe
set_option maxRecDepth 100000
set_option maxHeartbeats 0
variable {P:Nat×Nat->Prop}{data:fT}{rest xs:iN}{x:List fV×fT}{g:WG}{S c cc h j k m:Nat}{N:gF}{cs:Array fu}{w H:fq}{B:WB}{t:LT}{la:ig}{E:List fV}{F:Nat->Prop}
variable {b f:Bool}{N M:gF}{w H:fq}{B0 W s r p I:Nat}{A J:List Ob}{got:List Int}{ws:List Slot}
abbrev Doc:=Nat×List fV×fT×iN
def ue (A:List Ob)(b:Int)(x:List fV×fT):Prop:=fM A 5 (.dir b)/\Reads A qQ (.dir b) x.1 x.2/\gf x.1 x.2/\fv x.1<=1200000/\fv x.2<=1200000
structure xP where
 pt:kI
 wa:ig
 wc:Nat
 ta:ig
 tc:Nat
 a:Nat->ig
 c:Nat->Nat
 q:Nat->Nat
 hs:Nat->List ox
 F:Nat->Nat->Prop
 bs:Nat->List fV×fT
abbrev xP.sl (R:xP)(d:Nat):Value:=.slice (R.a d) (4*R.q d)<|R.c d
structure gq (b f:Bool)(R:xP)(tg:gF)(w:World)(B0 W s r p lim:Nat)(gM Xd:List Ob)(got:List Int)(ws:List Slot)(ds:List Doc):Prop where
 fresh:lG tg w
 old:∀k,k<B0->tg k=(0,0)
 size:B0<=w.heap.size
 brk:R.pt.b=b
 Qc:CA tg w R.pt got
 Mk:got.length<=lim
 w3:W3 ⟨R.pt,p,[]⟩ (fun k=>tg k=(0,1)) (fun k=>tg k=(0,2)) (fun k=>tg k=(1,0)) w W s r gM Xd (.slice R.wa ws.length R.wc) (.slice R.ta ds.length R.tc) (.bool f) (R.sl 8) (R.sl 9) (R.sl 10) (R.sl 11)
 yY:w.ownsRow 0 32 1 (.slice R.wa ws.length R.wc) ws.length (ws.map fun x=>ptr x.2.1.wb)/\∀g,(Value.slice R.wa ws.length R.wc).ownBlock=some g->tg g=(0,3)
 jq:w.ownsRow 0 115 1 (.slice R.ta ds.length R.tc) ds.length (ds.map fun x=>ptr x.1)/\∀g,(Value.slice R.ta ds.length R.tc).ownBlock=some g->tg g=(0,4)
 held:∀d,zf (R.F d) (kH d).1 (kH d).2.1 (kH d).2.2 (vH d) w (R.a d) (R.c d) (R.q d) (R.hs d)
 holds:∀d k,R.F d k->tg k=(0,0)/\B0<=k
 apart:∀d d' k,d≠d'->R.F d k->¬R.F d' k
 IC:∀x∈ws,En tg w p gM lim x
 slot:∀j (h:j<ws.length),ws[j].1=j+2
 Zr:∀j (h:j<ds.length),gi (fun k=>tg k=(0,8+j)) w ds[j].1 ds[j].2.1 ds[j].2.2.1 ds[j].2.2.2
 cnt:∀x,got.count x=(ws.map fun y=>y.2.2.1.fs.kn x).sum
 DJ:∀j (h:j<ws.length),ue gM ws[j].2.2.1.base (R.bs j)
 aaC:∀j (h:j<ds.length),nv (fun k=>tg k=(0,5)) w ds[j].2.2.2 (R.bs j)
def lG.lt(b:lG N w)(c:N k≠(0,0)):k<w.heap.size:=by
 rcases WN k w.heap.size with a|a
 exact a;exact absurd (b k a) c
def sw(b:lG N w):Sep w (λk=>N k=(0,1)) (λk=>N k=(0,2)) (λk=>N k=(1,0)):=
 ⟨λk a=>b.lt (by rw[a];decide),λk a=>⟨b.lt (by rw[a];decide),λe=>by rw[a]at e;cases e⟩,λk a=>⟨b.lt (by rw[a];decide),λe=>by rw[a]at e;cases e⟩,λk a e=>by rw[a]at e;cases e⟩
def vR(j:Nat)(a:c<8):((0,8+j):Nat×Nat)≠(0,c):=λe=>by have:=congrArg Prod.snd e;simp only at this;omega
section
variable {R:xP}{ds:List Doc}
theorem gq.tag(d:gq b f R N w B0 W s r p I A J got ws ds)(m:fI P N M w H){t:Nat×Nat}(a:N k=t)(e:t≠(0,0))(g:¬P t):M k=t/\H.heap[k]?=w.heap[k]?:=by
 have c:=d.fresh.lt (by rw[a];exact e);exact⟨(m.tags k c).trans a,m.block k c (by grind)⟩
theorem gq.aah(a:gq b f R N w B0 W s r p I A J got ws ds)(m:fI P N M w H):∀k,k<B0->M k=(0,0):=λk c=>(m.tags k (np c a.size)).trans<|a.old k c
theorem gq.aa2(a:gq b f R N w B0 W s r p I A J got ws ds)(m:fI P N M w H)(d:¬P (0,1)):mE (λk=>M k=(0,1)) H W s r (fv A) (fy R.wa (fv ws) R.wc) (fy R.ta (fv ds) R.tc) (fE f) (R.sl 8) (R.sl 9) (R.sl 10) (R.sl 11):=a.w3.law.keep (λk c=>(a.tag m c (by decide) d).1) λk c=>(a.tag m c (by decide) d).2
theorem gq.aai(a:gq b f R N w B0 W s r p I A J got ws ds)(m:fI P N M w H)(d:¬P (0,2)):gj (λk=>M k=(0,2)) H r J:=a.w3.ref.keep (λk c=>(a.tag m c (by decide) d).1) λk c=>(a.tag m c (by decide) d).2
theorem gq.aat(a:gq b f R N w B0 W s r p I A J got ws ds)(m:fI P N M w H)(d:¬P (1,0)):iL ⟨R.pt,p,[]⟩ (λk=>M k=(1,0)) H s A:=a.w3.wI.keep (λk c=>(a.tag m c (by decide) d).1) λk c=>(a.tag m c (by decide) d).2
theorem gq.Qd(a:gq b f R N w B0 W s r p I A J got ws ds)(m:fI P N M w H)(d:¬P (0,3)):H.ownsRow 0 32 1 (fy R.wa (fv ws) R.wc) (fv ws) (ws.map λx=>ptr x.2.1.wb)/\∀g,(Value.slice R.wa (fv ws) R.wc).ownBlock=fh g->M g=(0,3):=
 ⟨gg a.yY.1 λg c=>(a.tag m (a.yY.2 g c) (by decide) d).2,λg c=>(a.tag m (a.yY.2 g c) (by decide) d).1⟩
theorem gq.Qe(a:gq b f R N w B0 W s r p I A J got ws ds)(m:fI P N M w H)(d:¬P (0,4)):H.ownsRow 0 115 1 (fy R.ta (fv ds) R.tc) (fv ds) (ds.map λx=>ptr x.1)/\∀g,(Value.slice R.ta (fv ds) R.tc).ownBlock=fh g->M g=(0,4):=
 ⟨gg a.jq.1 λg c=>(a.tag m (a.jq.2 g c) (by decide) d).2,λg c=>(a.tag m (a.jq.2 g c) (by decide) d).1⟩
theorem gq.VQ(a:gq b f R N w B0 W s r p I A J got ws ds)(m:fI P N M w H)(e:¬P (0,0))(d):zf (R.F d) (kH d).1 (kH d).2.1 (kH d).2.2 (vH d) H (R.a d) (R.c d) (R.q d) (R.hs d):=(a.held d).keep (λk c=>m.block k ((a.held d).lt k c) (by rw[(a.holds d k c).1];exact e)) m.size
def gq.GG(a:gq b f R N w B0 W s r p I A J got ws ds)(m:fI P N M w H)(d k)(c:R.F d k):M k=(0,0)/\B0<=k:=⟨(m.tags k<|(a.held d).lt k c).trans (a.holds d k c).1,(a.holds d k c).2⟩
def gq.wsT(a:gq b f R N w B0 W s r p I A J got ws ds)(m:fI P N M w H)(e:∀i c,2<=i->¬P (i,c)):∀x∈ws,En M H p A I x:=λx d=>(a.IC x d).moves m λc=>e _ c (a.IC x d).two
theorem gq.Zs(a:gq b f R N w B0 W s r p I A J got ws ds)(m:fI P N M w H)(e:j<fv ds)(d:¬P (0,8+j)):gi (λk=>M k=(0,8+j)) H ds[j].1 ds[j].2.1 ds[j].2.2.1 ds[j].2.2.2:=by
 obtain⟨g,h,i,l,n⟩:=a.Zr j e;exact⟨g,h,i,l,n.keep (λk c=>(a.tag m c (vR j<|by decide) d).1) λk c=>(a.tag m c (vR j<|by decide) d).2⟩
theorem gq.Kl(a:gq b f R N w B0 W s r p I A J got ws ds)(m:fI P N M w H)(c:¬P (0,5))(d:j<fv ds)(e:rest.drop 32=ds[j].2.2.2.drop 32):nv (λk=>M k=(0,5)) H rest (R.bs j):=(a.aaC j d).keep e λk g=>a.tag m g (by decide) c
theorem gq.after(a:gq b f R N w B0 W s r p I A J got ws ds)(m:fI P N M w H)(g:∀c,¬P (0,c)){t:Bool}{i}{n:Nat}{d:List Slot}{pt:kI}
  (z:pt.b=t)(B:gQ pt (λk=>M k=(1,0)) H s p A)(C:CA M H pt i)(D:fv i<=n)(o:(d.map λx=>(x.2.1.wb,x.2.2.1.base))=ws.map λx=>(x.2.1.wb,x.2.2.1.base))(E:∀x∈d,En M H p A n x)(F:∀j(a:j<fv d),d[j].1=j+2)
  (G:∀x,i.count x=(d.map λy=>y.2.2.1.fs.kn x).sum):gq t f { R with pt:=pt } M H B0 W s r p n A J i d ds:=by
 have u:fv d=fv ws:=by have:=congrArg List.length o;simpa using this
 have v:=a.aa2 m<|g 1;have q:=a.Qd m<|g 3;have K:(d.map λx=>ptr x.2.1.wb)=ws.map λx=>ptr x.2.1.wb:=by
  have:=congrArg (List.map λx:Nat×Int=>ptr x.1) o
  grind [Ed,Function.comp_def]
 rw[<-u]at v q;rw[<-K]at q;refine⟨m.fresh a.fresh,a.aah m,wy a.size m.size,z,C,D,⟨v,a.aai m<|g 2,⟨B,a.w3.wI.2⟩,a.w3.twin,a.w3.at_,sw<|m.fresh a.fresh⟩,q,a.Qe m<|g 4,a.VQ m<|g 0,a.GG m,a.apart,E,F,λj h=>a.Zs m h<|g _,G,λj h=>?_,λj h=>a.Kl m (g 5) h fX⟩;have L:j<fv ws:=by rw[<-u];exact h
 have e:d[j].2.2.1.base=ws[j].2.2.1.base:=by
  have:=congrArg (λl:List (Nat×Int)=>(l[j]?).map (·.2)) o
  grind
 rw[e];exact a.DJ j L
def gq.aau(a:gq b f R N w B0 W s r p I A J got ws ds):js N w s p A got b I:=⟨a.fresh,R.pt,a.brk,a.w3.wI.1,a.Qc,a.w3.wI.2.2.1.sound,a.Mk⟩
theorem gq.below(a:gq b f R N w B0 W s r p I A J got ws ds)(c:ju w H):gq b f R N H B0 W s r p I A J got ws ds:=by
 have m:fI (λ_=>False) N N w H:=fI.fJ c;exact a.after m (λ_ a=>a) a.brk (a.w3.wI.1.below c λ_ _ a=>a) (a.Qc.moves m λa=>a) a.Mk fX (a.wsT m λ_ _ _ a=>a) a.slot a.cnt
theorem VR{a:Type}(f:a->Nat):∀(l:List a)(j:Nat)(b:j<fv l)(y:a),(l.map f).sum+f y=((l.set j y).map f).sum+f l[j]
 |x::l,0,_,y=>by simp only[List.set_cons_zero,lM,ctz,ED];omega
 |x::l,j+1,b,y=>by
  have:=VR f l j (by simpa using b) y
  grind
theorem BK{a b:Type}(g:a->b){l:List a}{y:a}(c:∀d:j<fv l,g y=g l[j]):(l.set j y).map g=l.map g:=by
 apply cos<|by simp
 grind
theorem gq.work(h:gq b f R N w B0 W s r p I A J got ws ds)(v:j<fv ws)(u:ws[j]=(j+2,B,g,t)):
  jy N w s (j+2) p B A { g with fs:={ g.fs with got:=got,brk:=b } } I t/\gB A t/\
  ∀{M:gF}{H:fq}{d:WG}{n:LT}{q:Nat},I<=q->fI (Mine<|j+2) N M w H->jy M H s (j+2) p B A d q n->d.base=g.base->(∃l,d.fs.got=got++l/\∀x,l.count x+g.fs.kn x=d.fs.kn x)->gB A n->
   ∃pt,gq d.fs.brk f { R with pt:=pt } M H B0 W s r p q A J d.fs.got (ws.set j (j+2,B,d,n)) ds:=by
 have a:=h.IC _ (show(j+2,B,g,t)∈ws by rw[<-u];exact kN v);refine⟨⟨⟨a.two,h.aau,⟨a.wp.tree,a.wp.nP,a.wp.nQ,a.wp.tY,a.wp.qj,a.wp.files,a.wp.held,a.wp.opens,a.wp.ok⟩⟩,a.flat,a.ok,a.fl⟩,a.inj,λ{M H d n q}E m o F G U=>?_⟩;obtain⟨_,pt,K,L,O,S,P⟩:=o.inv.st;obtain⟨l,T,V⟩:=G;refine⟨_,h.after m (λc e=>?_) K L O P (BK _ λ_=>by rw[u];simp only;rw[F]) (λx Q=>?_) (λk z=>?_) λx=>?_⟩;rcases e with e|e<;>simp only at e<;>omega
 obtain⟨k,z,rfl⟩:=rD Q;rw[WH];split;exact⟨a.two,o.inv.wp,o.flat,o.ok,o.fl,U⟩
 rename_i X
 have C:k<fv ws:=by simpa using z
 have Y:=h.slot k C;have i:=(h.IC _<|kN C).moves m (λc e=>by
  rcases e with e|e<;>simp only at e<;>omega)
 exact⟨i.two,i.wp.mono E,i.flat,i.ok,i.fl,i.inj⟩
 ·rw[WH]
  split
  ·all_goals omega
  exact h.slot k (by grind)
 have D:=VR (λy:Slot=>y.2.2.1.fs.kn x) ws j v (j+2,B,d,n);rw[u]at D;simp only at D;have Z:=h.cnt x
 all_goals grind
theorem BL(N:gF)(b:w.heap.size<=H.heap.size)(F:Nat->Prop)(t:Nat×Nat):∃M:gF,(∀k,k<w.heap.size->M k=N k)/\lG M H/\∀k,w.heap.size<=k->k<H.heap.size->(F k->M k=t)/\(¬F k->M k=(0,5)):=by
 classical
 refine⟨λk=>if k<w.heap.size then N k else if k<H.heap.size then(if F k then t else(0,5)) else(0,0),λk a=>lv a,λk a=>?_,λk c d=>⟨λhF=>?_,λhF=>?_⟩⟩
 all_goals grind
theorem gq.aa3{d:Doc}(a:gq b f R N w B0 W s r p I A J got ws ds)(B:j<fv ds)(C:ds[j]=d):
  gi (λk=>N k=(0,8+j)) w d.1 d.2.1 d.2.2.1 d.2.2.2/\∀{H:fq}{E:List fV}{data:fT}{rest:iN},gi (kA (λk=>N k=(0,8+j)) w H) H d.1 E data rest->rest.drop 32=d.2.2.2.drop 32->fH (λk=>N k=(0,8+j)) w H->
   ∃M,gq b f R M H B0 W s r p I A J got ws (ds.set j (d.1,E,data,rest)):=by
 subst C;refine⟨a.Zr j B,λ{H E data rest}o P h=>?_⟩;obtain⟨M,t1,q,t2⟩:=BL N h.size (λ_=>True) (0,8+j);have m:fI (λt=>t=(0,8+j)) N M w H:=⟨h.os,h.tape,h.output,h.size,t1,λk n g=>h.block k n g,λ_=>q⟩;have g:∀c,c<8->¬((0,c):Nat×Nat)=(0,8+j):=λc D e=>vR j D e.symm
 have z:=a.aa2 m<|g 1 (by decide);have u:=a.Qe m<|g 4 (by decide);have F:fv (ds.set j (ds[j].1,E,data,rest))=fv ds:=by simp
 rw[<-F]at z u;rw[<-BK (λx:Doc=>ptr x.1) (l:=ds) (j:=j) (y:=(ds[j].1,E,data,rest)) λ_=>rfl]at u;refine⟨M,⟨q,a.aah m,wy a.size h.size,a.brk,a.Qc.moves m (λe=>by cases e),a.Mk,⟨z,a.aai m<|g 2 (by decide),a.aat m (λe=>by cases e),a.w3.twin,a.w3.at_,sw q⟩,a.Qd m<|g 3 (by decide),u,a.VQ m<|g 0 (by decide),a.GG m,a.apart,a.wsT m (λi c U e=>by have:=congrArg Prod.fst e;simp only at this;omega),a.slot,λi U=>?_,a.cnt,a.DJ,λi U=>?_⟩⟩
 ·have v:i<fv ds:=by simpa using U
  simp only[WH];split
  ·rename_i e
   subst e;obtain⟨G,K,L,O,o⟩:=o;refine⟨G,K,L,O,o.keep (λk n=>?_) λ_ _=>rfl⟩;rcases n with n|⟨n,Q⟩
   ·exact(t1 k<|a.fresh.lt (by grind)).trans n
   grind
  ·exact a.Zs m v (λe=>by have:=congrArg Prod.snd e;simp only at this;omega)
 ·have v:i<fv ds:=by simpa using U
  refine a.Kl m (g 5<|by decide) v ?_
  grind
end
theorem mE.reset{F d:Nat->Prop}{W s r n}{c5 f h i j l m d5 d6 d7 d8 d9 d10 d11:fu}(y:mE F w W s r n c5 f h i j l m)(hF:∀k,F k->d k)
  (z:∀o p q u v,w.heap[W]?=fh (.cells #[o,p,q,u,v,c5,f,h,i,j,l,m] 71 (0,0))->H.heap[W]?=fh (.cells #[o,p,q,u,v,d5,d6,d7,d8,d9,d10,d11] 71 (0,0)))(A:∀k,F k->k≠W->H.heap[k]?=w.heap[k]?):mE d H W s r n d5 d6 d7 d8 d9 d10 d11:=by
 obtain⟨B,C,D,E,G,I,J,a,K⟩:=y;have row:∀{t:lV}{c:fu}{n:Nat}{xs:iN},w.ownsRow 0 t 1 c n xs->71≠t->(∀g,c.ownBlock=fh g->F g)->H.ownsRow 0 t 1 c n xs:=λx L M=>gg x λg b=>A g (M g b) λe=>io x a.hW L (by grind);exact⟨B,C,D,E,G,I,J,⟨hF _ a.fw,z _ _ _ _ _ a.hW,row a.rP (by decide) a.fi,row a.uh (by decide) a.fk,row a.uj (by decide) a.fp,λg b=>hF g<|a.fi g b,λg b=>hF g<|a.fk g b,λg b=>hF g<|a.fp g b⟩,K⟩
section
variable {R:xP}{ds:List Doc}
theorem gq.fW(a:gq b f R N w B0 W s r p I A J got ws ds):N W=(0,1):=by
 obtain⟨_,_,_,_,_,_,_,c,_⟩:=a.w3.law;exact c.fw
def gq.block(a:gq b f R N w B0 W s r p I A J got ws ds):∃c d e g h,w.heap[W]?=fh (.cells #[c,d,e,g,h,fy R.wa (fv ws) R.wc,fy R.ta (fv ds) R.tc,fE f,R.sl 8,R.sl 9,R.sl 10,R.sl 11] 71 (0,0)):=a.w3.block
theorem gq.low{X}(c:gq b f R N w B0 W s r p I A J got ws ds)(a:fH X w H)(g:∀k,X k->N k≠(0,0)\/B0<=k):Below B0 w H:=
 ⟨a.os,a.tape,a.output,a.size,λk d=>a.block k (np d c.size) (λh=>by
  rcases g k h with e|e
  exact e<|c.old k d
  omega)⟩
theorem gq.aaj{d:Nat}(V:d=8\/d=10\/d=11){B C D E G:fu}(h:gq b f R N w B0 W s r p I A J got ws ds)(X:m+3<=1000000000)(Y:w.ownsRow 0 (kH d).1 (kH d).2.2 (fy la m c) m xs)(Lv:∀g,(Value.slice la m c).ownBlock=fh g->N g=(0,0)/\B0<=g/\∀i,¬R.F i g)
  (Z:w.heap[W]?=fh (.cells #[B,C,D,E,G,fy R.wa (fv ws) R.wc,fy R.ta (fv ds) R.tc,fE f,R.sl 8,R.sl 9,R.sl 10,R.sl 11] 71 (0,0)))
  (l:rW (kH d).1 (kH d).2.1 (kH d).2.2 (vH d<|R.q d) d w H W (R.q d) #[B,C,D,E,G,fy R.wa (fv ws) R.wc,fy R.ta (fv ds) R.tc,fE f,R.sl 8,R.sl 9,R.sl 10,R.sl 11] (R.a d) (R.c d) la m c (R.hs d)):
  ∃K,K.q=pC R.q d (R.q d+1)/\gq b f K N H B0 W s r p I A J got ws ds/\Below B0 w H:=by
 have L:∀i k,R.F i k->k≠W:=λi k l e=>by have:=(h.holds i k l).1;rw[e,h.fW]at this;cases this
 obtain⟨aa,c4,ab,ac,am,o⟩:=(h.held d).next (Ipc d) l (λn=>L d W n fX) (λg M=>⟨(Lv g M).2.2 d,gc Y M⟩) X;have FM:∀k,R.F d k\/fh k=(Value.slice la m c).ownBlock->N k=(0,0):=λk l=>by
  rcases l with e|e
  exact(h.holds d k e).1;exact(Lv k e.symm).1
 have u:fI (λt=>t=(0,0)\/t=(0,1)) N N w H:=⟨o.os,o.tape,o.output,o.size,λ_ _=>rfl,λk O P=>o.block k O (by
  rintro(e|e);exact P<|.inr (by rw[e];exact h.fW);exact P<|.inl (FM k e)),λn k l=>n k<|wy o.size l⟩
 have ad:∀k,N k≠(0,0)->k≠W->H.heap[k]?=w.heap[k]?:=λk Q ae=>o.block k (h.fresh.lt Q) (by
  rintro(e|e);exact ae e;exact Q<|FM k e)
 have af:∀i k,i≠d->R.F i k->H.heap[k]?=w.heap[k]?:=λi k U n=>o.block k ((h.held i).lt k n) (by
  rintro(e|e|e);exact L i k n e;exact h.apart i d k U n e;exact(Lv k e.symm).2.2 i n)
 have S:=u.fresh h.fresh;have an:∀{k i},(R.F d k\/fh k=(Value.slice la m c).ownBlock\/(w.heap.size<=k/\k<H.heap.size))->i≠d->¬R.F i k:=λ{k i}l U n=>by
  rcases l with e|e|e
  exact h.apart i d k U n e;exact(Lv k e.symm).2.2 i n
  have:=(h.held i).lt k n
  omega
 refine⟨{ R with a:=pC R.a d<|fh (ii aa 0),c:=pC R.c d c4,q:=pC R.q d<|R.q d+1,hs:=pC R.hs d ab,F:=pC R.F d (λk=>R.F d k\/fh k=(Value.slice la m c).ownBlock\/(w.heap.size<=k/\k<H.heap.size)) },fX,⟨S,h.old,wy h.size o.size,h.brk,h.Qc.moves u (by grind),h.Mk,⟨?_,h.aai u (by grind),h.aat u (by grind),h.w3.twin,h.w3.at_,sw S⟩,h.Qd u (by grind),h.Qe u (by grind),λi=>?_,λi k l=>?_,λi j k x l v=>?_,h.wsT u (λi c U e=>by rcases e with e|e<;>(have:=congrArg Prod.fst e;simp only at this;omega)),h.slot,λj y=>h.Zs u y (by grind),h.cnt,h.DJ,λj y=>h.Kl u (by grind) y fX⟩,h.low o (by
   rintro k (e|e|e);exact .inl (by rw[e,h.fW];decide);exact .inr (h.holds d k e).2;exact .inr (Lv k e.symm).2.1)⟩
 refine h.w3.law.reset (λ_ h=>h) (λao ap aq ar au z=>?_) λk O ag=>ad k (by grind) ag;rw[Z]at z;simp only[pV,Obj.cells.injEq,Array.mk.injEq,Cc,Eg]at z;obtain⟨ah,ai,aj,ak,al⟩:=z;rw[ac,ah,ai,aj,ak,al];rcases V with rfl|rfl|rfl<;>rfl
 by_cases e:i=d
 grind [ld]
 simp only[kx e];exact(h.held i).keep (λk l=>af i k e l) o.size;by_cases e:i=d;subst e;simp only[ld]at l;rcases l with e|e|e
 exact h.holds i k e
 grind
 exact⟨h.fresh k e.1,wy h.size e.1⟩;simp only[kx e]at l;exact h.holds i k l;by_cases e:i=d;subst e;simp only[ld,kx<|Ne.symm x]at l v
 grind
 by_cases T:j=d;subst T;simp only[ld,kx x]at l v
 grind
 simp only[kx e,kx T]at l v;exact h.apart i j k x l v
theorem gq.aa4(a:gq b f R N w B0 W s r p I A J got ws ds)(l:4*R.q 8<=1000000000)(n:m+3<=1000000000)(h:w.ownsRow 0 9 1 (fy la m c) m xs)(Lv:∀g,(Value.slice la m c).ownBlock=fh g->N g=(0,0)/\B0<=g/\∀i,¬R.F i g):
  ik 93 #[fB<|fh (ii W 8),fy la m c] w λe H=>e=pD #[]/\∃j,j.q=pC R.q 8 (R.q 8+1)/\gq b f j N H B0 W s r p I A J got ws ds/\Below B0 w H:=by
 obtain⟨t,u,v,x,y,k⟩:=a.block;exact((FJ W (R.q 8) _ (R.a 8) (R.c 8) m c la (R.hs 8) xs w k l<|by omega).2 fX (a.held 8).row h).mono λe H⟨o,q⟩=>⟨o,a.aaj (d:=8) (.inl fX) n h Lv k q⟩
theorem gq.aa5(a:gq b f R N w B0 W s r p I A J got ws ds)(l:4*R.q 11<=1000000000)(n:m+3<=1000000000)(h:w.ownsRow 0 29 1 (fy la m c) m xs)(Lv:∀g,(Value.slice la m c).ownBlock=fh g->N g=(0,0)/\B0<=g/\∀i,¬R.F i g):
  ik 88 #[fB<|fh (ii W 8),fy la m c] w λe H=>e=pD #[]/\∃j,j.q=pC R.q 11 (R.q 11+1)/\gq b f j N H B0 W s r p I A J got ws ds/\Below B0 w H:=by
 obtain⟨t,u,v,x,y,k⟩:=a.block;exact((FJ W (R.q 11) _ (R.a 11) (R.c 11) m c la (R.hs 11) xs w k l<|by omega).1 fX (a.held 11).row h).mono λe H⟨o,q⟩=>⟨o,a.aaj (d:=11) (.inr<|.inr fX) n h Lv k q⟩
theorem gq.aa6(a:gq b f R N w B0 W s r p I A J got ws ds)(l:4*R.q 10<=1000000000)(n:m+3<=1000000000)(h:w.ownsRow 0 133 2 (fy la m c) m xs)(Lv:∀g,(Value.slice la m c).ownBlock=fh g->N g=(0,0)/\B0<=g/\∀i,¬R.F i g):
  ik 56 #[fB<|fh (ii W 8),fy la m c] w λe H=>e=pD #[]/\∃j,j.q=pC R.q 10 (R.q 10+1)/\gq b f j N H B0 W s r p I A J got ws ds/\Below B0 w H:=by
 obtain⟨t,u,v,x,y,k⟩:=a.block;exact((zS W (R.q 10) _ (R.a 10) (R.c 10) m c la (R.hs 10) xs w k l<|by omega).1 fX (a.held 10).row h).mono λe H⟨o,q⟩=>⟨o,a.aaj (d:=10) (.inr<|.inl fX) n h Lv k q⟩
theorem gq.still(c:gq b f R N w B0 W s r p I A J got ws ds)(h:∀d,4*R.q d<=1000000000):
  ik 24 #[fB<|fh (ii W 8)] w (ut (fE fm) w):=by
 obtain⟨j,k,l,m,n,a⟩:=c.block;have g:=λd=>(c.held d).len;have e:∀d,(R.sl d)=fy (R.a d) (fv<|R.hs d) (R.c d):=λd=>by rw[g d]
 rw[e 8,e 9,e 10,e 11]at a;refine SE W R.a R.c R.hs w (lW.1 a).1 (by simp[World.cell?,a]) (by simp[World.cell?,a]) (by simp[World.cell?,a]) (by simp[World.cell?,a]) (λd=>by have:=(c.held d).row;rw[<-g d]at this;exact this) (λd=>by rw[g d];exact h d) λd i U=>⟨((c.held d).lists i U).1,((c.held d).lists i U).2.1⟩
def gq.BM(a:gq b f R N w B0 W s r p I A J got ws ds):W3 ⟨R.pt,p,A⟩ (λk=>N k=(0,1)) (λk=>N k=(0,2)) (λk=>N k=(1,0)) w W s r A J (fy R.wa (fv ws) R.wc) (fy R.ta (fv ds) R.tc) (fE f) (R.sl 8) (R.sl 9) (R.sl 10) (R.sl 11):=⟨a.w3.law,a.w3.ref,⟨a.w3.wI.1,sM _,a.w3.wI.2.2⟩,a.w3.twin,a.w3.at_,a.w3.sep⟩
theorem ue.app{b:Int}(a:ue A b x)(d:Sound A)(l:List Ob):ue (A++l) b x:=⟨jo l 5 _ a.1,(λc e=>by rw[mZ d l _ c 5 _ a.1];exact a.2.1 c e),a.2.2⟩
theorem gq.Km{y z Y u:Nat->Prop}{Z T}{K}{L D:Nat}{V}(g:gq b f R N w B0 W s r p I A J got ws ds)
  (h:W3 ⟨R.pt,p,A⟩ y z Y H W s r Z T (fy R.wa (fv ws) R.wc) (fy R.ta (fv ds) R.tc) (fE f) (R.sl 8) (fy K (4*D) L) (R.sl 10) (R.sl 11))(ae:Held u H K L D V)(af:∀k,u k->¬F3 y z Y k)
  (O:zP (λk=>N k=(0,1)) (λk=>N k=(0,2)) (λk=>N k=(1,0)) y z Y w.heap.size)(X:∀k,u k->R.F 9 k\/w.heap.size<=k)(m:fH (λk=>F3 (λk=>N k=(0,1)) (λk=>N k=(0,2)) (λk=>N k=(1,0)) k\/R.F 9 k) w H):
  ∃aa M l,Z=A++l/\aa.q=pC R.q 9 D/\gq b f aa M H B0 W s r p I Z T got ws ds/\Below B0 w H:=by
 classical
 obtain⟨l,rfl⟩:∃l,Z=A++l:=by
  obtain⟨l,ao⟩:=h.wI.2.1
  grind
 obtain⟨M,v⟩:=ol (λk=>if k<w.heap.size then N k else if y k then(0,1)else if z k then(0,2)else if Y k then(1,0) else(0,0):gF);have t1:∀k,k<w.heap.size->M k=N k:=λk d=>by rw[v];exact lv d
 have E:=m.size;have P:lG M H:=λk B=>by
  rw[v];simp only;rw[km<|by omega,km (λe=>by have:=h.sep.ll k e;omega),km (λe=>by have:=(h.sep.rl k e).1;omega),km (λe=>by have:=(h.sep.sl k e).1;omega)]
 have ag:∀k,y k->M k=(0,1):=λk d=>by
  rcases(O k).1 d with e|e
  exact(t1 k<|g.w3.sep.ll k e).trans e;rw[v];simp only;rw[km<|by omega,lv d]
 have ah:∀k,z k->M k=(0,2):=λk d=>by
  rcases(O k).2.1 d with e|e
  exact(t1 k (g.w3.sep.rl k e).1).trans e;rw[v];simp only;rw[km<|by omega,km (h.sep.rl k d).2,lv d]
 have ai:∀k,Y k->M k=(1,0):=λk d=>by
  rcases(O k).2.2 d with e|e
  exact(t1 k (g.w3.sep.sl k e).1).trans e;rw[v];simp only;rw[km<|by omega,km (h.sep.sl k d).2,km λe=>h.sep.rs k e d,lv d]
 have aj:∀k,u k->M k=(0,0)/\B0<=k:=λk d=>by
  rcases X k d with e|e
  exact⟨(t1 k<|(g.held 9).lt k e).trans (g.holds 9 k e).1,(g.holds 9 k e).2⟩;have n:=af k d;refine⟨?_,wy g.size e⟩;rw[v];simp only;rw[km<|by omega,km λx=>n<|.inl x,km λx=>n<|.inr (.inl x),km λx=>n<|.inr (.inr x)]
 have keep:∀k,k<w.heap.size->N k≠(0,1)->N k≠(0,2)->N k≠(1,0)->¬R.F 9 k->H.heap[k]?=w.heap[k]?:=λk Q G ak al am=>m.block k Q (by
  rintro((e|e|e)|e);exact G e;exact ak e;exact al e;exact am e)
 have o:fI (λt=>t=(0,0)\/t=(0,1)\/t=(0,2)\/t=(1,0)) N M w H:=⟨m.os,m.tape,m.output,E,t1,λk d n=>keep k d (λe=>n<|.inr (.inl e)) (λe=>n<|.inr (.inr<|.inl e)) (λe=>n<|.inr (.inr<|.inr e)) λe=>n<|.inl (g.holds 9 k e).1,λ_=>P⟩;have ab:=g.w3.wI.2.2.1.sound;refine⟨{ R with a:=pC R.a 9 K,c:=pC R.c 9 L,q:=pC R.q 9 D,hs:=pC R.hs 9 V,F:=pC R.F 9 u },M,l,fX,fX,⟨P,g.aah o,wy g.size E,g.brk,g.Qc.moves o (by grind),g.Mk,⟨h.law.mono ag,h.ref.keep ah λ_ _=>rfl,⟨h.wI.1.keep (λ_ _ _=>rfl) λk _ d=>ai k d,hRS,h.wI.2.2⟩,h.twin,h.at_,sw P⟩,g.Qd o (by grind),g.Qe o (by grind),λi=>?_,λi k d=>?_,λi j k S d B=>?_,λx ac=>((g.IC x ac).app ab l).moves o (λc an=>by have:=(g.IC x ac).two;rcases an with e|e|e|e<;>(have:=congrArg Prod.fst e;simp only at this;omega)),g.slot,λj C=>g.Zs o C (by grind),g.cnt,λj C=>(g.DJ j C).app ab l,λj C=>g.Kl o (by grind) C fX⟩,?_⟩;by_cases e:i=9;subst e;simp only[ld];exact ae;simp only[kx e];exact(g.held i).keep (λk d=>keep k ((g.held i).lt k d) (by rw[(g.holds i k d).1];decide) (by rw[(g.holds i k d).1];decide) (by rw[(g.holds i k d).1];decide)<|g.apart i 9 k e d) E;by_cases e:i=9;subst e;simp only[ld]at d;exact aj k d;simp only[kx e]at d;exact g.GG o i k d;have ap:∀i,i≠9->u k->R.F i k->False:=λi U Q G=>by
  rcases X k Q with e|e
  exact g.apart i 9 k U G e
  have:=(g.held i).lt k G
  omega
 by_cases e:i=9;subst e;simp only[ld,kx<|Ne.symm S]at d B
 grind
 by_cases ad:j=9;subst ad;simp only[ld,kx S]at d B
 grind
 simp only[kx e,kx ad]at d B;exact g.apart i j k S d B;refine⟨m.os,m.tape,m.output,E,λk d=>?_⟩;have aq:=g.old k d;exact keep k (np d g.size) (by grind) (by grind) (by grind) (λe=>by have:=(g.holds 9 k e).2;omega)
theorem gq.step(d:gq b f R N w B0 W s r p I A J got ws ds)(j:4*R.q 9<=1000000000)(a:Step)(m:a.Fits w)(c:1<=a.kind/\a.kind<=5):
  ik 20 #[ie W,a.val] w λe H=>e=fF (fE fm)/\∃g M l i h,h<=R.q 9+1/\g.q=pC R.q 9 h/\gq b f g M H B0 W s r p I (A++l) i got ws ds/\Below B0 w H:=by
 have n:∀k,N k=(0,0)->¬F3 (λk=>N k=(0,1)) (λk=>N k=(0,2)) (λk=>N k=(1,0)) k:=λk c e=>by
  rcases e with e|e|e<;>(rw[c]at e;cases e)
 refine(Sw d.BM (d.held 9) (λk c=>n k (d.holds 9 k c).1) j a m c).mono ?_;rintro e H ⟨o,h,q,E,F,Y,G,Z,i,K,L,O,t,u,v,x,y,z⟩;obtain⟨g,M,l,rfl,B,C,D⟩:=d.Km t u v x y z;exact⟨o,g,M,l,i,h,q,B,C,D⟩
theorem gq.acN(a:gq b f R N w B0 W s r p I A J got ws ds)(Q:fv ds=fv ws)(q:En N w p A I (fv ws+2,B,g,t))(S:ue A g.base x)(E:∀x,g.fs.kn x=0)(T:w.heap[W]?=fh (.cells cs 71 (0,0)))
  (P:H.heap[W]?=fh (.cells (cs.setIfInBounds 5<|my h 0 (fv ws+1) cc) 71 (0,0))/\H.ownsRow 0 32 1 (my h 0 (fv ws+1) cc) (fv ws+1) ((ws.map λx=>ptr x.2.1.wb)++[ptr B.wb])/\
   ((fh h:Option Nat)=(Value.slice R.wa (fv ws) R.wc).ownBlock\/w.heap.size<=h)/\fH (λk=>k=W\/fh k=(Value.slice R.wa (fv ws) R.wc).ownBlock) w H):
  ∃u M,u.q=R.q/\u.bs (fv ws)=x/\fI (λt=>t=(0,1)\/t=(0,3)) N M w H/\gq b f u M H B0 W s r p I A J got (ws++[(fv ws+2,B,g,t)]) ds/\Below B0 w H:=by
 obtain⟨V,F,G,m⟩:=P;obtain⟨X,_⟩:=a.block;have v:=m.size;obtain⟨M,t1,y,t2⟩:=BL N v (λ_=>True) (0,3);have d:fI (λt=>t=(0,1)\/t=(0,3)) N M w H:=⟨m.os,m.tape,m.output,v,t1,λk z l=>m.block k z (by
  rintro(e|e);exact l<|.inl (by rw[e];exact a.fW);exact l<|.inr (a.yY.2 k e.symm)),λ_=>y⟩
 have C:fv (ws++[(fv ws+2,B,g,t)]:List Slot)=fv ws+1:=by simp
 have l:∀c,c≠1->c≠3->¬(((0,c):Nat×Nat)=(0,1)\/((0,c):Nat×Nat)=(0,3)):=λc Y Z e=>by rcases e with e|e<;>(have:=congrArg Prod.snd e;simp only at this;omega)
 have D:∀i c,2<=i->¬(((i,c):Nat×Nat)=(0,1)\/((i,c):Nat×Nat)=(0,3)):=λi c U e=>by rcases e with e|e<;>(have:=congrArg Prod.fst e;simp only at this;omega)
 refine⟨{ R with wa:=fh<|ii h 0,wc:=cc,bs:=pC R.bs (fv ws) x },M,fX,ld _ _ _,d,⟨y,a.aah d,wy a.size v,a.brk,a.Qc.moves d (by grind),a.Mk,⟨?_,a.aai d<|l 2 (by decide) (by decide),a.aat d (by grind),a.w3.twin,a.w3.at_,sw y⟩,⟨?_,?_⟩,a.Qe d<|l 4 (by decide) (by decide),a.VQ d<|l 0 (by decide) (by decide),a.GG d,a.apart,?_,?_,λj n=>a.Zs d n<|l _ (by omega) (by omega),?_,λj n=>?_,λj n=>?_⟩,a.low m (by
   rintro k (e|e);exact .inl (by rw[e,a.fW];decide);exact .inl (by rw[a.yY.2 k e.symm];decide))⟩
 rw[C];refine a.w3.law.reset (λk K=>(t1 k (a.fresh.lt (by grind))).trans K) (λaa ab ac ad ae af=>?_) (λk z L=>m.block k (a.fresh.lt (by grind)) (by
  rintro(e|e);exact L e
  have:=a.yY.2 k e.symm;rw[z]at this;cases this))
 grind
 grind
 rw[C];intro x q;simp only[Value.ownBlock,pV]at q;subst q;rcases G with e|e
 exact(t1 h<|a.fresh.lt (by rw[a.yY.2 h e.symm];decide)).trans<|a.yY.2 h e.symm;exact(t2 h e<|gc F fX).1 trivial;intro x o;rcases qw.1 o with o|o
 exact a.wsT d D x o;rw[oa.1 o];exact q.moves d λc=>D _ c (by omega);intro j n;rw[Rt];split;exact a.slot j (by assumption)
 grind
 intro x;rw[nh,List.sum_append,a.cnt x];simp[E x];rw[Rt];split
 rename_i O
 show ue A _<|pC R.bs (fv ws) x j;rw[kx<|by omega];exact a.DJ j O
 grind [ue,pC,ld]
 show nv _ _ _<|pC R.bs (fv ws) x j;rw[kx<|by omega];exact a.Kl d (l 5 (by decide)<|by decide) n fX
theorem gq.acO(a:gq b f R N w B0 W s r p I A J got ws ds)(n:gi (λk=>N k=(0,8+fv ds)) w S E data rest)(C:nv (λk=>N k=(0,5)) w rest (R.bs<|fv ds))(X:w.heap[W]?=fh (.cells cs 71 (0,0)))
  (P:H.heap[W]?=fh (.cells (cs.setIfInBounds 6<|my h 0 (fv ds+1) cc) 71 (0,0))/\H.ownsRow 0 115 1 (my h 0 (fv ds+1) cc) (fv ds+1) ((ds.map λx=>ptr x.1)++[ptr S])/\
   ((fh h:Option Nat)=(Value.slice R.ta (fv ds) R.tc).ownBlock\/w.heap.size<=h)/\fH (λk=>k=W\/fh k=(Value.slice R.ta (fv ds) R.tc).ownBlock) w H):
  ∃z M,z.q=R.q/\gq b f z M H B0 W s r p I A J got ws (ds++[(S,E,data,rest)])/\Below B0 w H:=by
 obtain⟨Y,D,F,l⟩:=P;obtain⟨Z,_⟩:=a.block;have o:=l.size;obtain⟨M,t1,q,t2⟩:=BL N o (λ_=>True) (0,4);have d:fI (λt=>t=(0,1)\/t=(0,4)) N M w H:=⟨l.os,l.tape,l.output,o,t1,λk u g=>l.block k u (by
  rintro(e|e);exact g<|.inl (by rw[e];exact a.fW);exact g<|.inr (a.jq.2 k e.symm)),λ_=>q⟩
 have B:fv (ds++[(S,E,data,rest)]:List Doc)=fv ds+1:=by simp
 have g:∀c,c≠1->c≠4->¬(((0,c):Nat×Nat)=(0,1)\/((0,c):Nat×Nat)=(0,4)):=λc aa ab e=>by rcases e with e|e<;>(have:=congrArg Prod.snd e;simp only at this;omega)
 refine⟨{ R with ta:=fh<|ii h 0,tc:=cc },M,fX,⟨q,a.aah d,wy a.size o,a.brk,a.Qc.moves d (by grind),a.Mk,⟨?_,a.aai d<|g 2 (by decide) (by decide),a.aat d (by grind),a.w3.twin,a.w3.at_,sw q⟩,a.Qd d<|g 3 (by decide) (by decide),⟨?_,?_⟩,a.VQ d<|g 0 (by decide) (by decide),a.GG d,a.apart,a.wsT d (λi c U e=>by rcases e with e|e<;>(have:=congrArg Prod.fst e;simp only at this;omega)),a.slot,λj v=>?_,a.cnt,a.DJ,λj v=>?_⟩,a.low l (by
   rintro k (e|e);exact .inl (by rw[e,a.fW];decide);exact .inl (by rw[a.jq.2 k e.symm];decide))⟩
 rw[B];refine a.w3.law.reset (λk m=>(t1 k (a.fresh.lt (by grind))).trans m) (λac ad ae af ag ah=>?_) (λk u G=>l.block k (a.fresh.lt (by grind)) (by
  rintro(e|e);exact G e
  have:=a.jq.2 k e.symm;rw[u]at this;cases this))
 grind
 grind
 rw[B];intro x n;simp only[Value.ownBlock,pV]at n;subst n;rcases F with e|e
 exact(t1 h<|a.fresh.lt (by rw[a.jq.2 h e.symm];decide)).trans<|a.jq.2 h e.symm;exact(t2 h e<|gc D fX).1 trivial;rw[Rt];split;exact a.Zs d (by assumption)<|g _ (by omega) (by omega)
 rename_i K
 have y:j=fv ds:=by simp at v;omega
 subst y;simp only[EK,ED];obtain⟨L,O,Q,T,V⟩:=n;exact⟨L,O,Q,T,V.keep (λk m=>(a.tag d m (vR _<|by decide) (g _ (by omega)<|by omega)).1) λk m=>(a.tag d m (vR _<|by decide) (g _ (by omega)<|by omega)).2⟩;rw[Rt];split;exact a.Kl d (g 5 (by decide)<|by decide) (by assumption) fX
 rename_i K
 have y:j=fv ds:=by simp at v;omega
 subst y;simp only[EK,ED];exact C.keep fX λk m=>a.tag d m (by decide)<|g 5 (by decide) (by decide)
theorem gq.tagged(a:gq b f R N w B0 W s r p I A J got ws ds)(c:ju w H)(hF:∀k,F k->w.heap.size<=k/\k<H.heap.size)(l:gi F H S E data rest)(n:nv (λk=>w.heap.size<=k/\¬F k) H rest x)(t:Nat×Nat):
  ∃M,fI (λ_=>False) N M w H/\gq b f R M H B0 W s r p I A J got ws ds/\gi (λk=>M k=t) H S E data rest/\nv (λk=>M k=(0,5)) H rest x:=by
 obtain⟨M,t1,o,t2⟩:=BL N c.size F t;have m:fI (λ_=>False) N M w H:=⟨c.os,c.tape,c.output,c.size,t1,λk d _=>c.block k d,λ_=>o⟩;refine⟨M,m,a.after m (λ_ a=>a) a.brk (a.w3.wI.1.below c λk d hF=>(t1 k d).trans hF) (a.Qc.moves m λa=>a) a.Mk fX (a.wsT m λ_ _ _ a=>a) a.slot a.cnt,?_,?_⟩;obtain⟨q,u,v,y,z⟩:=l;exact⟨q,u,v,y,z.keep (λk d=>(t2 k (hF k d).1 (hF k d).2).1 d) λ_ _=>rfl⟩;obtain⟨ba,B,Z,wc,h,j⟩:=n;refine⟨ba,B,Z,wc,h,λg i=>(t2 g (j g i).1 ?_).2 (j g i).2⟩;rcases i with e|e
 exact gc h.TX e;exact gc h.yY e
end
