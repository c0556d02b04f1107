/- What is proved here: the store's answers and the mE are one. -/
import Derived.Test.YtlgidcmmgohagaaGreatFileM05
import Derived.Test.YtlgidcmmgohagaaGreatFileM02
import Derived.BigQuiet
namespace Go.Proofs.YtlgidcmmgohagaaGreat
open Go.RowKit Go.Sort Go.Shelf Go.Proofs.Tryz
set_option linter.unusedVariables false
set_option maxRecDepth 100000
set_option maxHeartbeats 16000000
variable {w w':World}{ec id x y:Int}{m n:Nat}{ls:List eN}{e:eN}{ey ky eC iy:List Ob}{F FH FL LC FR LD FS LF:Nat->Prop}{d:eD}{hs:List gf}{ea:fD}
def Twin (ey eC:List Ob):Prop:=ey.length=eC.length/\(∀i (h1:i<ey.length) (h2:i<eC.length),vF ey[i] eC[i])/\∀o∈ey,o.kind=1\/o.kind=2
theorem rC{a b:Type}(p:a->Bool)(q:b->Bool):∀(xs:List a) (ys:List b),xs.length=ys.length->(∀i (h1:i<xs.length) (h2:i<ys.length),p xs[i]=q ys[i])->xs.findIdx? p=ys.findIdx? q
 |[],[],_,_=>rfl
 |[],_::_,h,_=>by simp at h
 |_::_,[],h,_=>by simp at h
 |x::xs,y::ys,h,hp=>by
  have h0:=hp 0 (by simp) (by simp)
  simp only[KJ]at h0
  rw[KR,KR,h0,rC p q xs ys (by simpa using h) (fun i h1 h2=>by have:=hp (i+1) (by simpa using h1) (by simpa using h2);simpa using this)]
theorem LG{a b:eN}(h:fH a=fH b):a=b:=by
 unfold fH at h;simp only[uR]at h;obtain⟨h1,h2,h3⟩:=h;exact Ay h1 (Ay h2 (by omega))
theorem wZ{c d:Type}(f:c->d)(hf:∀a b,f a=f b->a=b):∀(xs ys:List c),xs.map f=ys.map f->xs=ys
 |[],[],_=>rfl
 |[],_::_,h=>by simp at h
 |_::_,[],h=>by simp at h
 |x::xs,y::ys,h=>by
  simp only[jg,sG]at h
  rw[hf x y h.1,wZ f hf xs ys h.2]
theorem Qj(h:Twin ey eC)(d:eD):findAt eC (zr d)=fileAt ey d:=by
 refine(rC _ _ ey eC h.1 fun i h1 h2=>?_).symm;have a:=h.2.1 i h1 h2;unfold nL zr;by_cases hk:ey[i].kind=1
 ·rw[a.kind,hk,a.data hk,a.none hk];simp
 ·rw[a.kind];simp[hk]
theorem Uf(h:Twin ey eC)(v:fD×Nat)(m:Nat)(es:List eN):findAt eC (Lm v m (es.map fH))=nj ey es:=by
 refine(rC _ _ ey eC h.1 fun i h1 h2=>?_).symm;have a:=h.2.1 i h1 h2;unfold nL Lm;by_cases hk:ey[i].kind=2
 ·rw[a.kind,hk,a.empty hk,a.eR hk]
  have:decide (ey[i].eR.map fH=es.map fH)=decide (ey[i].eR=es):=by
   by_cases e:ey[i].eR=es
   ·rw[e];simp
   ·rw[rk e,rk (fun h=>e (wZ fH (fun a b=>LG) _ _ h))]
  rw[this];simp
 ·rw[a.kind];simp[hk]
theorem Ug{a:Type}(p:a->Bool):∀(l:List a) {y:a},y∈l.takeWhile p->p y=true
 |[],y,h=>by cases h
 |x::l,y,h=>by
  cases hx:p x with
  |true=>
   rw[List.takeWhile_cons_of_pos hx]at h
   rcases gU.1 h with rfl|h
   ·exact hx
   ·exact Ug p l h
  |false=>
   rw[List.takeWhile_cons_of_neg (by simp[hx])]at h
   cases h
theorem IA{out:List eN}{x:eN}(h:gC out)(hx:∀y∈out,y.1≠x.1):gC (wG out x):=by
 unfold wG;have f:=List.takeWhile_append_dropWhile (p:=fun y:eN=>ji y.1 x.1) (l:=out);have k:gC (out.takeWhile (fun y=>ji y.1 x.1)++out.dropWhile (fun y=>ji y.1 x.1)):=by rw[f];exact h
 obtain⟨m,d,n⟩:=List.pairwise_append.1 k;have low:∀y∈out.takeWhile (fun y=>ji y.1 x.1),CR y x<0:=fun y c=>by
  have:=Ug _ _ c
  unfold ji at this;exact wm this
 have high:∀y∈out.dropWhile (fun y=>ji y.1 x.1),CR x y<0:=by
  cases hd:out.dropWhile (fun y=>ji y.1 x.1) with
  |nil=>intro y c;cases c
  |cons z q=>
   have g:ji z.1 x.1=false:=by
    have:=List.head?_dropWhile_not (p:=fun y:eN=>ji y.1 x.1) out
    rw[hd]at this;simpa using this
   have o:z∈out:=by rw[<-f,hd];simp
   have i:CR x z<0:=by
    unfold CR;unfold ji at g;have hn:=Wz g;have r:=oy z.1.data.toList x.1.data.toList;by_cases h0:Lib.compareBytes z.1.data.toList x.1.data.toList=0
    ·exact absurd (bytes_inj (kP _ _ h0)) (hx z o)
    ·omega
   intro y c;rcases gU.1 c with rfl|c
   ·exact i
   ·rw[hd]at d
    exact mB _ _ _ i ((sj.1 d).1 y c)
 refine List.pairwise_append.2 ⟨m,sj.2 ⟨high,d⟩,fun a j b e=>?_⟩;rcases gU.1 e with rfl|e
 ·exact low a j
 ·exact n a j b e
theorem pL:∀(ls out:List eN),gC out->((ls++out).map (·.1)).Nodup->gC (ls.foldl wG out)
 |[],out,h,_=>h
 |x::r,out,h,hn=>by
  rw[Aq]
  have a:(x.1::((r++out).map (·.1))).Nodup:=by simpa using hn
  obtain⟨n1,n2⟩:=Ti.1 a
  refine pL r (wG out x) (IA h fun y b e=>n1 (by rw[<-e];exact CM (WR _ b))) ?_
  have hp:(r++wG out x).Perm (x::(r++out)):=((DB out x).append_left r).trans List.perm_middle
  exact(hp.map (·.1)).nodup_iff.2 (by simpa using a)
theorem uW(hn:(ls.map (·.1)).Nodup):gC (Ps ls):=pL ls [] List.Pairwise.nil (by simpa using hn)
theorem uX:∀{xs ys:List eN},gC xs->gC ys->xs.Perm ys->xs=ys
 |[],ys,_,_,h=>(List.nil_perm.1 h).symm▸rfl
 |x::xs,[],_,_,h=>by have:=h.length_eq;simp at this
 |x::xs,y::ys,hx,f,h=>by
  have g:∀a:eN,¬CR a a<0:=fun a=>by unfold CR;rw[sI];omega
  obtain⟨i,j⟩:=sj.1 hx
  obtain⟨k,l⟩:=sj.1 f
  have e:x=y:=by
   have c:x∈y::ys:=h.mem_iff.1 (jS ..);have d:y∈x::xs:=h.mem_iff.2 (jS ..);rcases gU.1 c with e|c
   ·exact e
   ·rcases gU.1 d with e|d
    ·exact e.symm
    ·have a:=k x c
     have b:=i y d;exact absurd (mB _ _ _ a b) (g y)
  subst e;rw[uX j l (List.Perm.cons_inv h)]
def gL (n:Nat)(e:eN):eN:=(e.1,e.2.1,if 1<=e.2.2/\e.2.2<=(n:Int)then e.2.2-1 else -1)
theorem Xm(h:1<=e.2.2/\e.2.2<=(n:Int)):gL n e=fH e:=by unfold gL fH;rw[ie h]
theorem Qk(h:Twin ey eC){j:Nat}(hj:j<ey.length):ey[j].kind≠0:=by
 rcases h.2.2 _ (kj hj)with e|e<;>rw[e]<;>decide
theorem DV(h:Twin ey eC)(e:eN):lI eC (gL ey.length e)=EQ ey e:=by
 unfold lI EQ gL;by_cases hr:1<=e.2.2/\e.2.2<=(ey.length:Int)
 ·obtain⟨j,hj⟩:∃j:Nat,e.2.2=(j:Int)+1:=⟨(e.2.2-1).toNat,by omega⟩
  have a:j<ey.length:=by omega
  have c:j<eC.length:=by rw[<-h.1];exact a
  simp only[hr,and_self,KY];rw[hj,tx a,show((j:Int)+1-1)=(j:Int) by omega,ow,jy c];have hk:=(h.2.1 j a c).kind;have h0:=Qk h a;simp only[mq,qj,hk];rw[mz (by omega)];have d:(ey[j].kind==0)=false:=by simpa using h0
  rw[d];by_cases b:ey[j].kind=e.2.1
  ·rw[mz b,beq_iff_eq.2 b];rfl
  ·rw[rk b,beq_false_of_ne b];rfl
 ·rw[fY hr,Pl (by omega)]
  simp
theorem Bj(h:EQ ey e=true):1<=e.2.2/\e.2.2<=(ey.length:Int):=by
 by_cases hid:e.2.2<1\/(ey.length:Int)<e.2.2
 ·unfold EQ at h;rw[Pl hid]at h;simp at h
 ·omega
theorem Ql(h:Twin ey eC)(hg:EQ ey e=true):yU eC (gL ey.length e)=fB ey e.2.2:=by
 have hr:=Bj hg;obtain⟨j,hj⟩:∃j:Nat,e.2.2=(j:Int)+1:=⟨(e.2.2-1).toNat,by omega⟩;have a:j<ey.length:=by omega
 have b:j<eC.length:=by rw[<-h.1];exact a
 unfold yU gL;simp only[hr,and_self,KY];rw[hj,xZ a,show((j:Int)+1-1)=(j:Int) by omega,ow,jy b];exact(h.2.1 j a b).high
theorem Bk(h:Twin ey eC):∀(es:List eN) (a:Int),(∀e∈es,EQ ey e=true)->(es.map (gL ey.length)).foldl (fun h e=>max h (1+yU eC e)) a=es.foldl (fun h e=>max h (1+fB ey e.2.2)) a
 |[],_,_=>rfl
 |e::r,a,hg=>by
  simp only[jg,Aq]
  rw[Ql h (hg e (jS ..))]
  exact Bk h r _ (fun x hx=>hg x (pn _ hx))
theorem Uh(n:Nat)(ls:List eN):(ls.map (gL n)).map (·.1)=ls.map (·.1):=by
 rw[Fg];rfl
def vI (ey ky eC iy:List Ob)(id ec x y:Int):Prop:=
 ec=y/\Twin ky iy/\((y≠0/\id=0/\ky=ey/\iy=eC)\/(y=0/\∃j:Nat,x=(j:Int)/\id=(j:Int)+1/\((ky=ey/\iy=eC/\j<ey.length)\/(j=ey.length/\ky.length=ey.length+1))))
theorem DW(h:Twin ey eC){o x:Ob}(b:vF o x)(hk:o.kind=1\/o.kind=2):Twin (ey++[o]) (eC++[x]):=by
 refine⟨by simp[h.1],fun i h1 h2=>?_,fun y a=>?_⟩
 ·by_cases hi:i<ey.length
  ·rw[KM hi,KM (by rw[<-h.1];exact hi)]
   exact h.2.1 i hi _
  ·have e:i=ey.length:=by simp at h1;omega
   subst e;have c:(ey++[o])[ey.length]=o:=by simp
   have e2:(eC++[x])[ey.length]'h2=x:=by simp[h.1]
   rw[c,e2];exact b
 ·rcases sB.1 a with a|a
  ·exact h.2.2 y a
  ·rw[nh.1 a];exact hk
theorem Ol{p:Ob->Bool}{i:Nat}(h:ey.findIdx? p=some i):i<ey.length:=(zO.1 h).1
theorem LH{e:Ending}(h:Twin ey eC)(hf:jB ey ky d e)(hr:wI eC iy d x y):
  ∃id ec,e=.returned (.tuple #[eJ id,eJ ec])/\vI ey ky eC iy id ec x y:=by
 have ht:=Qj h d;rcases hf with⟨h1,h2,h3⟩|⟨h1,h2,i,h3,g⟩|⟨h1,h2,h3,g,j⟩|⟨h1,h2,h3,g,j⟩
 ·rcases hr with⟨_,b,c,f⟩|⟨a,_⟩
  ·subst h2 b c f
   exact⟨_,_,h3,rfl,h,.inl ⟨by decide,rfl,rfl,rfl⟩⟩
  ·omega
 ·rcases hr with⟨a,_⟩|⟨_,⟨k,a,b,c,f⟩|⟨a,_⟩|⟨a,_⟩⟩
  ·omega
  ·rw[ht,h3]at a
   cases a;subst h2 b c f;exact⟨_,_,g,rfl,h,.inr ⟨rfl,i,rfl,rfl,.inl ⟨rfl,rfl,Ol h3⟩⟩⟩
  ·rw[ht,h3]at a;cases a
  ·rw[ht,h3]at a;cases a
 ·rcases hr with⟨a,_⟩|⟨_,⟨k,a,b,c,f⟩|⟨a,b,c,f,l⟩|⟨a,b,_⟩⟩
  ·omega
  ·rw[ht,h2]at a;cases a
  ·subst g c f l
   exact⟨_,_,j,rfl,h,.inl ⟨by decide,rfl,rfl,rfl⟩⟩
  ·have:=h.1;omega
 ·rcases hr with⟨a,_⟩|⟨_,⟨k,a,b,c,f⟩|⟨a,b,_⟩|⟨a,b,c,f,l⟩⟩
  ·omega
  ·rw[ht,h2]at a;cases a
  ·have:=h.1;omega
  ·subst g c f l
   refine⟨_,_,j,rfl,DW h ⟨rfl,fun _=>rfl,fun h=>absurd h (show ¬(1:Int)=2 by decide),rfl,fun _=>rfl,fun h=>absurd h (show ¬(1:Int)=2 by decide)⟩ (.inl rfl),.inr ⟨rfl,ey.length,by rw[h.1],rfl,.inr ⟨rfl,by simp⟩⟩⟩
theorem Qm{e:Ending}(h:Twin ey eC)(hf:iJ ey ky ls e)(hr:wK eC iy (ls.map (gL ey.length)) x y):
  ∃id ec,e=.returned (.tuple #[eJ id,eJ ec])/\vI ey ky eC iy id ec x y:=by
 have nm:=Uh ey.length ls;have val:(∃e∈ls.map (gL ey.length),eG e.1=false)↔∃e∈ls,eG e.1=false:=by
  constructor
  ·rintro⟨e,t,hv⟩
   obtain⟨a,p,rfl⟩:=ij.1 t;exact⟨a,p,hv⟩
  ·rintro⟨a,p,hv⟩
   exact⟨_,CM p,hv⟩
 have K:(∃e∈ls.map (gL ey.length),lI eC e=false)↔∃e∈ls,EQ ey e=false:=by
  constructor
  ·rintro⟨e,t,hv⟩
   obtain⟨a,p,rfl⟩:=ij.1 t;exact⟨a,p,by rw[<-DV h];exact hv⟩
  ·rintro⟨a,p,hv⟩
   exact⟨_,CM p,by rw[DV h];exact hv⟩
 have Q:(ls.map (gL ey.length)).length=ls.length:=nD ..;have A:∀{P:eN->Bool} {l:List eN},(∀e∈l,P e=true)->¬ ∃e∈l,P e=false:=fun h1 ⟨e,t,hv⟩=>by rw[h1 e t]at hv;cases hv
 unfold wK at hr;rw[nm,Q,val,K]at hr;rcases hf with⟨f1,f2,f3⟩|⟨f1,hf⟩
 ·rcases hr with⟨_,d,f,g⟩|⟨b,_⟩
  ·subst f2 d f g
   exact⟨_,_,f3,rfl,h,.inl ⟨by decide,rfl,rfl,rfl⟩⟩
  ·exact absurd (val.2 f1) (A b)
 ·rcases hr with⟨b,_⟩|⟨_,hr⟩
  ·exact absurd b (A f1)
  ·rcases hf with⟨k,B,g3⟩|⟨k,B,g3,G⟩|⟨k,B,g3,G,R⟩|⟨k,B,g3,es',C,S,X,hg⟩
   ·rcases hr with⟨_,d,f,g⟩|⟨b,_⟩|⟨b,_⟩|⟨b,_⟩|⟨b,_⟩
    ·subst B d f g
     exact⟨_,_,g3,rfl,h,.inl ⟨by decide,rfl,rfl,rfl⟩⟩
    all_goals exact absurd b k
   ·rcases hr with⟨b,_⟩|⟨_,_,d,f,g⟩|⟨_,b,_⟩|⟨_,b,_⟩|⟨_,b,_⟩
    ·exact absurd k b
    ·subst g3 d f g
     exact⟨_,_,G,rfl,h,.inl ⟨by decide,rfl,rfl,rfl⟩⟩
    all_goals omega
   ·rcases hr with⟨b,_⟩|⟨_,b,_⟩|⟨_,_,_,d,f,g⟩|⟨_,_,b,_⟩|⟨_,_,b,_⟩
    ·exact absurd k b
    ·omega
    ·subst G d f g
     exact⟨_,_,R,rfl,h,.inl ⟨by decide,rfl,rfl,rfl⟩⟩
    all_goals exact absurd (K.2 g3) (A b)
   ·have L:∀z∈es',EQ ey z=true:=fun z H=>g3 z (C.mem_iff.1 H)
    have I:sk eC (ls.map (gL ey.length))=fI ey es':=by
     rw[sO eC (C.map (gL ey.length)).symm];exact Bk h es' 0 L
    have M:es'.map (gL ey.length)=es'.map fH:=Pp fun z H=>Xm (Bj (L z H));have T:gC (es'.map fH):=CO.2 (S.imp fun h=>h);have U:Ps (ls.map (gL ey.length))=es'.map fH:=by
     refine uX (uW (by rw[nm];exact k)) T ?_;rw[<-M];exact(jk _).trans (C.map _).symm
    have V:=fun v m=>Uf h v m es';rcases hr with⟨b,_⟩|⟨_,b,_⟩|⟨_,_,b,_⟩|⟨_,_,_,b,d,f,g⟩|⟨_,_,_,b,v,z,s,J⟩
    ·exact absurd k b
    ·omega
    ·exact absurd b (A g3)
    ·rw[I]at b
     rcases hg with⟨q,r,n⟩|⟨q,_⟩|⟨q,_⟩|⟨q,_⟩
     ·subst r d f g
      exact⟨_,_,n,rfl,h,.inl ⟨by decide,rfl,rfl,rfl⟩⟩
     all_goals omega
    ·rw[I]at b
     rw[U]at s;unfold AP at s;rw[V]at s;rcases hg with⟨q,_⟩|⟨q,r,i,n,k4⟩|⟨q,r,n,k4,k5⟩|⟨q,r,n,⟨o,D,o2,o3,W⟩,k5⟩
     ·omega
     ·rcases s with⟨j,c,u,E⟩|⟨c,_⟩|⟨c,_⟩
      ·rw[n]at c
       cases c;rcases J with⟨N,_⟩|⟨_,F,w⟩
       ·omega
       ·subst r u w
        exact⟨_,_,k4,rfl,h,.inr ⟨rfl,i,by omega,rfl,.inl ⟨rfl,rfl,Ol n⟩⟩⟩
      ·rw[n]at c;cases c
      ·rw[n]at c;cases c
     ·rcases s with⟨j,c,_⟩|⟨c,u,E,O⟩|⟨c,u,_⟩
      ·rw[r]at c;cases c
      ·rcases J with⟨_,F,w⟩|⟨N,_⟩
       ·subst k4 E F w
        exact⟨_,_,k5,rfl,h,.inl ⟨by decide,rfl,rfl,rfl⟩⟩
       ·omega
      ·have:=h.1;omega
     ·rcases s with⟨j,c,_⟩|⟨c,u,_⟩|⟨c,u,E,O⟩
      ·rw[r]at c;cases c
      ·have:=h.1;omega
      ·rcases J with⟨N,_⟩|⟨_,F,w⟩
       ·omega
       ·subst W E w
        refine⟨_,_,k5,rfl,DW h ⟨D.symm,fun h=>by rw[D]at h;exact absurd h (by decide),fun _=>by rw[o2];rfl,?_,fun h=>by rw[D]at h;exact absurd h (by decide),fun _=>rfl⟩ (.inr D),.inr ⟨rfl,ey.length,by rw[F,O,h.1],rfl,.inr ⟨rfl,by simp⟩⟩⟩;show sk eC (es'.map fH)=o.high;rw[o3,<-I,<-M];exact sO eC (C.map _)
variable {ft:CX}
structure Sep (w:World)(FL FR FS:Nat->Prop):Prop where
 ll:∀k,FL k->k<w.heap.size
 rl:∀k,FR k->k<w.heap.size/\¬FL k
 sl:∀k,FS k->k<w.heap.size/\¬FL k
 rs:∀k,FR k->¬FS k
structure W3 (ft:CX)(FL FR FS:Nat->Prop)(w:World)(W s r:Nat)(ey eC:List Ob)(c5 c6 c7 c8 c9 c10 c11:Value):Prop where
 law:fZ FL w W s r ey.length c5 c6 c7 c8 c9 c10 c11
 ref:fh FR w r eC
 uu:gh ft FS w s ey
 twin:Twin ey eC
 at_:iL eC
 sep:Sep w FL FR FS
theorem Sep.below(h:Sep w FL FR FS)(a:w.heap.size<=w'.heap.size):Sep w' FL FR FS:=
 ⟨fun k hk=>lO (h.ll k hk) a,fun k hk=>⟨lO (h.rl k hk).1 a,(h.rl k hk).2⟩,fun k hk=>⟨lO (h.sl k hk).1 a,(h.sl k hk).2⟩,h.rs⟩
theorem fZ.keep{F F':Nat->Prop}{W s r n:Nat}{c5 c6 c7 c8 c9 c10 c11:Value}(h:fZ F w W s r n c5 c6 c7 c8 c9 c10 c11)(hF:∀k,F k->F' k)(hk:∀k,F k->w'.heap[k]?=w.heap[k]?):fZ F' w' W s r n c5 c6 c7 c8 c9 c10 c11:=by
 obtain⟨ia,ka,pa,ic,kc,pc,paths,hl,hp⟩:=h;exact⟨ia,ka,pa,ic,kc,pc,paths,hl.keep hF hk,hp⟩
section
variable {FL FR FS:Nat->Prop}{w:World}{W s r:Nat}{ey eC ky iy:List Ob}{c5 c6 c7 c8 c9 c10 c11:Value}
theorem W3.below(h:W3 ft FL FR FS w W s r ey eC c5 c6 c7 c8 c9 c10 c11)(a:ik w w'):W3 ft FL FR FS w' W s r ey eC c5 c6 c7 c8 c9 c10 c11:=
 ⟨h.law.keep (fun _ h=>h) (fun k hk=>a.block k (h.sep.ll k hk)),h.ref.keep (fun _ h=>h) (fun k hk=>a.block k (h.sep.rl k hk).1),gh.keep h.uu (fun _ h=>h) (fun k hk=>a.block k (h.sep.sl k hk).1),h.twin,h.at_,h.sep.below a.size⟩
def F3 (FL FR FS:Nat->Prop)(k:Nat):Prop:=FL k\/FR k\/FS k
def yq (FL FR FS LC LD LF:Nat->Prop)(n:Nat):Prop:=∀k,(LC k->FL k\/n<=k)/\(LD k->FR k\/n<=k)/\(LF k->FS k\/n<=k)
theorem yq.all(h:yq FL FR FS LC LD LF n):∀k,F3 LC LD LF k->F3 FL FR FS k\/n<=k:=by
 rintro k (e|e|e)
 ·exact((h k).1 e).imp .inl id
 ·exact((h k).2.1 e).imp (fun x=>.inr (.inl x)) id
 ·exact((h k).2.2 e).imp (fun x=>.inr (.inr x)) id
theorem yq.refl:yq FL FR FS FL FR FS n:=fun k=>⟨.inl,.inl,.inl⟩
theorem yq.mono(h:yq FL FR FS LC LD LF n)(hm:m<=n):yq FL FR FS LC LD LF m:=fun k=>⟨fun e=>((h k).1 e).imp id (wl hm),fun e=>((h k).2.1 e).imp id (wl hm),fun e=>((h k).2.2 e).imp id (wl hm)⟩
theorem rD(hl:fZ FL w W s r ey.length c5 c6 c7 c8 c9 c10 c11)(hr:fh FR w r iy)(hs:gh ft FS w s ky)(a:Sep w FL FR FS)(c:iL iy)(l:vI ey ky eC iy id ec x y)(m:y=0)(n:ey.length=eC.length):
  gc 37 #[hh W,eJ x,eJ id] w fun e w'=>e=.returned (.bool true)/\W3 ft (kp FL w w') FR FS w' W s r ky iy c5 c6 c7 c8 c9 c10 c11/\eA FL w w':=by
 obtain⟨_,ht,h|⟨_,j,rfl,rfl,h⟩⟩:=l
 ·exact absurd m h.1
 ·have i:∀w':World,eA FL w w'->Sep w' (kp FL w w') FR FS:=fun w' hk=>⟨fun k b=>by rcases b with h|h;exact lO (a.ll k h) hk.size;exact h.2,
   fun k b=>⟨lO (a.rl k b).1 hk.size,fun h=>by rcases h with h|h;exact(a.rl k b).2 h;have:=(a.rl k b).1;omega⟩,
   fun k b=>⟨lO (a.sl k b).1 hk.size,fun h=>by rcases h with h|h;exact(a.sl k b).2 h;have:=(a.sl k b).1;omega⟩,a.rs⟩
  rcases h with⟨rfl,rfl,hj⟩|⟨rfl,d⟩
  ·refine(rA hl hr a.rl n.symm c j hj).mono fun e w' ⟨f,g,hk⟩=>⟨f,⟨g,nZ hr a.rl hk,gh.keep hs (fun _ h=>h) (fun k b=>hk.block k (a.sl k b).1 (a.sl k b).2),ht,c,i w' hk⟩,hk⟩
  ·have o:iy.length=ey.length+1:=by rw[<-ht.1,d]
   refine(LB hl hr hs a.rl a.sl a.ll o d c (ht.2.1 ey.length (by omega) (by omega))).mono fun e w' ⟨f,g,hk⟩=>⟨f,⟨?_,nZ hr a.rl hk,gh.keep hs (fun _ h=>h) (fun k b=>hk.block k (a.sl k b).1 (a.sl k b).2),ht,c,i w' hk⟩,hk⟩;rw[d];exact g
theorem Bl{x:Ob}(h:iL eC)(hx:∀e∈x.eR,0<=e.2.2/\e.2.2<(eC.length:Int)):iL (eC++[x]):=by
 intro i hi e a;by_cases b:i<eC.length
 ·rw[KM b]at a
  exact h i b e a
 ·have c:i=eC.length:=by simp at hi;omega
  subst c;rw[WK (kx _)]at a;simp at a;exact hx e a
theorem LI(h:iL eC)(hr:wI eC iy d x y):iL iy:=by
 rcases hr with⟨_,rfl,_⟩|⟨_,⟨_,_,rfl,_⟩|⟨_,_,rfl,_⟩|⟨_,_,rfl,_⟩⟩
 ·exact h
 ·exact h
 ·exact h
 ·exact Bl h (fun e a=>by cases a)
theorem Qn{a:List eN}(h:iL eC)(hm:∀e∈a,e.2.2<(eC.length:Int))(hr:wK eC iy a x y):iL iy:=by
 rcases hr with⟨_,rfl,_⟩|⟨_,⟨_,rfl,_⟩|⟨_,_,rfl,_⟩|⟨_,_,_,rfl,_⟩|⟨_,_,_,_,rfl,_⟩|⟨_,_,hg,_,v,z,hp,_⟩⟩
 ·exact h
 ·exact h
 ·exact h
 ·exact h
 ·exact h
 ·rcases hp with⟨_,_,rfl,_⟩|⟨_,_,rfl,_⟩|⟨_,_,rfl,_⟩
  ·exact h
  ·exact h
  ·refine Bl h (fun e c=>?_)
   have b:e∈a:=rq c;have h1:=hg e b;unfold lI at h1;simp only[xP,uP]at h1;exact⟨h1.1,hm e b⟩
end
variable {ft:CX}
def Stepped (ft:CX)(FL FR FS:Nat->Prop)(w w':World)(W s r:Nat)(c5 c6 c7 c8 c9 c10 c11:Value):Prop:=
 ∃LC LD LF ky iy,W3 ft LC LD LF w' W s r ky iy c5 c6 c7 c8 c9 c10 c11/\yq FL FR FS LC LD LF w.heap.size/\eA (F3 FL FR FS) w w'
section
variable {FL FR FS:Nat->Prop}{w:World}{W s r:Nat}{ey eC:List Ob}{c5 c6 c7 c8 c9 c10 c11:Value}
theorem fZ.cells(h:fZ FL w W s r n c5 c6 c7 c8 c9 c10 c11):w.cell? (eI W 0)=some (hh s)/\w.cell? (eI W 1)=some (hh r)/\W<w.heap.size/\FL W:=by
 obtain⟨_,_,_,_,_,_,_,hl,_⟩:=h;exact⟨hl.c0,hl.c1,hl.lt,hl.fw⟩
theorem DX{c b w3:World}{S:eD}{e:Ending}(h:W3 ft FL FR FS w W s r ey eC c5 c6 c7 c8 c9 c10 c11)(d:ik w c)(hk:eA FS c b)(hi:gh ft (kp FS c b) b s ky)(hl:fZ FL b W s r ey.length c5 c6 c7 c8 c9 c10 c11)
  (f:eA FR b.drew w3)(j:fh (kp FR b.drew w3) w3 r iy)(nK:jB ey ky S e)(g:wI eC iy S x y)(l:e=.returned (.tuple #[eJ id,eJ ec])):
  vI ey ky eC iy id ec x y/\fZ FL w3 W s r ey.length c5 c6 c7 c8 c9 c10 c11/\gh ft (kp FS c b) w3 s ky/\fh (kp FR b w3) w3 r iy/\Sep w3 FL (kp FR b w3) (kp FS c b)/\iL iy/\eA (F3 FL FR FS) w w3:=by
 have q:=d.size;have t:=hk.size;have u:b.heap.size<=w3.heap.size:=f.size;obtain⟨m,n,i,o⟩:=LH h.twin nK g;rw[l]at i;have p:id=m/\ec=n:=by simpa using i
 obtain⟨rfl,rfl⟩:=p;have Zy:∀k,k<b.heap.size->¬FR k->w3.heap[k]?=b.heap[k]?:=fun k hk hn=>f.block k hk hn;refine⟨o,hl.keep (fun _ h=>h) (fun k a=>Zy k (by have:=h.sep.ll k a;omega) (fun hr=>(h.sep.rl k hr).2 a)),gh.keep hi (fun _ h=>h) (fun k a=>Zy k ?_ (fun hr=>?_)),j,⟨fun k a=>by have:=h.sep.ll k a;omega,fun k a=>?_,fun k a=>?_,fun k a hs=>?_⟩,LI h.at_ g,⟨?_,?_,?_,by omega,fun k a hn=>?_⟩⟩
 ·rcases a with h'|h'
  ·have:=(h.sep.sl k h').1;omega
  ·exact h'.2
 ·rcases a with h'|h'
  ·exact h.sep.rs k hr h'
  ·have:=(h.sep.rl k hr).1;omega
 ·rcases a with h'|h'
  ·exact⟨by have:=(h.sep.rl k h').1;omega,(h.sep.rl k h').2⟩
  ·exact⟨h'.2,fun hf=>by have:=h.sep.ll k hf;have:=h'.1;omega⟩
 ·rcases a with h'|h'
  ·exact⟨by have:=(h.sep.sl k h').1;omega,(h.sep.sl k h').2⟩
  ·exact⟨by have:=h'.2;omega,fun hf=>by have:=h.sep.ll k hf;have:=h'.1;omega⟩
 ·rcases a with h'|h'
  ·rcases hs with h2|h2
   ·exact h.sep.rs k h' h2
   ·have:=(h.sep.rl k h').1;have:=h2.1;omega
  ·rcases hs with h2|h2
   ·have:=(h.sep.sl k h2).1;have:=h'.1;omega
   ·have:=h'.1;have:=h2.2;omega
 ·exact f.os.trans (hk.os.trans d.os)
 ·exact f.tape.trans (hk.tape.trans d.tape)
 ·exact f.output.trans (hk.output.trans d.output)
 ·rw[Zy k (by omega) (fun hr=>hn (.inr (.inl hr))),hk.block k (by omega) (fun hr=>hn (.inr (.inr hr))),d.block k a]
theorem CZ(h:W3 ft FL FR FS w W s r ey eC c5 c6 c7 c8 c9 c10 c11)(a1 a2 a3:Int)(S T:eD)(la:fD)(lm lc:Nat)(hS:S.size<=maxLen):
  gc 20 #[hh W,.agg #[eJ 1,eJ a1,eJ a2,eJ a3,.string S,.string T,.slice la lm lc]] w fun e w'=>e=.returned (.bool true)/\Stepped ft FL FR FS w w' W s r c5 c6 c7 c8 c9 c10 c11:=by
 have d:Hid (W3 ft FL FR FS w W s r ey eC c5 c6 c7 c8 c9 c10 c11):=h;obtain⟨L,M,v,N⟩:=h.law.cells;obtain⟨B,n⟩:∃B:Obj,B=.cells #[eJ 1,eJ a1,eJ a2,eJ a3,.string S,.string T,.slice la lm lc] 57:=⟨_,rfl⟩;obtain⟨b,g⟩:∃b,b=w.alloc B:=⟨_,rfl⟩;have i:ik w b:=by rw[g];exact(lh _ _).alloc (kx _) B
 have O:ik w b.drew:=iQ i 1;have h1:=h.below O;have z:=uU h1.uu S hS;have A:Hid _:=z;have P:b.cell? (eI w.heap.size 4)=some (.string S):=by rw[g,n];simp
 have Q:=(i.cell (p:=(eI W 0)) v).trans L;have R:=(i.cell (p:=(eI W 1)) v).trans M;have ai:b.heap.size=w.heap.size+1:=by rw[g];simp
 have U:Hid (W3 ft FL FR FS b.drew W s r ey eC c5 c6 c7 c8 c9 c10 c11):=h1;clear h z h1;go_enter func20,ntmps20;go_wp2;rw[<-n,<-g];have aj:Hid (B=.cells #[eJ 1,eJ a1,eJ a2,eJ a3,.string S,.string T,.slice la lm lc] 57):=n;have ak:Hid (b=w.alloc B):=g;clear n g
 go_region_with(first|(go_at_call 35;refine io A.out ?_;rintro e f ⟨ky,nK,C,j⟩;obtain⟨id,ec,t⟩:=nK.shape;have V:Hid (jB ey ky S e):=nK;have X:Hid (e=.returned (.tuple #[eJ id,eJ ec])):=t;rw[t];clear nK t))
 all_goals
  have o:eA FS b f:=⟨j.os,j.tape,j.output,j.size,j.block⟩;have hkb:∀x,x<b.heap.size->¬FS x->f.heap[x]?=b.heap[x]?:=fun x hx hn=>o.block x hx hn;have D:¬FS W:=fun hf=>(U.out.sep.sl W hf).2 N;have Y:¬FS w.heap.size:=fun hf=>by have:=(d.out.sep.sl _ hf).1;omega
  have al:=(jP (a:=(eI W 0)) (hkb W (by omega) D)).trans Q;have am:=(jP (a:=(eI W 1)) (hkb W (by omega) D)).trans R;have an:=(jP (a:=(eI w.heap.size 4)) (hkb w.heap.size (by omega) Y)).trans P;have ao:b.heap.size<=f.heap.size:=o.size;have E:fh FR f.drew r eC:=d.out.ref.keep (fun _ h=>h) (fun k hk=>(hkb k (by have:=(d.out.sep.rl k hk).1;omega) (d.out.sep.rs k hk)).trans (i.block k (d.out.sep.rl k hk).1));have Z:Hid (fZ FL f W s r ey.length c5 c6 c7 c8 c9 c10 c11):=d.out.law.keep (fun _ h=>h) (fun k hk=>(hkb k (by have:=d.out.sep.ll k hk;omega) (fun hf=>(d.out.sep.sl k hf).2 hk)).trans (i.block k (d.out.sep.ll k hk)));have aa:Hid (gh ft (kp FS b f) f s ky):=C;have ab:Hid (eA FS b f):=o;have F:=wJ E S hS;have ac:Hid _:=F;clear A C j o F E
  go_frame
  go_wp2
  go_region_with(first|(go_at_call 36;refine io ac.out ?_;rintro ap w3 ⟨x,y,iy,rfl,G,H,I⟩))
  all_goals
   have J:=DX d.out (show ik w b from i) ab.out aa.out Z.out I H V.out G X.out;have c:Hid _:=J;clear J G H I
   go_frame
   have K:=fun(e:Int) (ad:World)=>IR e ad;obtain⟨ae,_,u⟩:=c.out.1;subst ae;by_cases q:ec=0
   ·have af:=rD c.out.2.1 c.out.2.2.2.1 c.out.2.2.1 c.out.2.2.2.2.1 c.out.2.2.2.2.2.1 c.out.1 q d.out.twin.1
    subst q;clear u;have aq:((0:Int) != 0)=false:=by simp
    go_wp2_with(first
     |(go_at_call 22;refine io (K _ _) ?_;rintro _ _ ⟨rfl,rfl⟩)
     |(go_at_call 37;refine io af ?_;rintro _ ar ⟨rfl,ag,m⟩))
    go_ret;refine⟨rfl,_,_,_,ky,iy,ag,?_,?_⟩
    ·have ah:=c.out.2.2.2.2.2.2.size
     refine fun k=>⟨?_,?_,?_⟩<;>rintro(h|h)
     ·exact .inl h
     ·exact .inr (wl ah h.1)
     ·exact .inl h
     ·have:=h.1;exact .inr (by omega)
     ·exact .inl h
     ·have:=h.1;exact .inr (by omega)
    ·have l:=c.out.2.2.2.2.2.2
     exact⟨m.os.trans l.os,m.tape.trans l.tape,m.output.trans l.output,wl l.size m.size,fun k hk hn=>(m.block k (lO hk l.size) (fun h=>hn (.inl h))).trans (l.block k hk hn)⟩
   ·have hid:id=0/\ky=ey/\iy=eC:=by
     rcases u with h|h
     ·exact h.2
     ·exact absurd h.1 q
    have au:(ec != 0)=true:=by simpa using q
    have av:(ec==ec)=true:=(by simp);obtain⟨rfl,rfl,rfl⟩:=hid;clear u;go_wp2_with(go_at_call 22;refine io (K _ _) ?_;rintro _ _ ⟨rfl,rfl⟩);go_ret;refine⟨rfl,_,_,_,ky,iy,⟨c.out.2.1,c.out.2.2.2.1,c.out.2.2.1,d.out.twin,d.out.at_,c.out.2.2.2.2.1⟩,?_,c.out.2.2.2.2.2.2⟩
    ·refine fun k=>⟨.inl,?_,?_⟩<;>rintro(h|h)
     ·exact .inl h
     ·have:=h.1;exact .inr (by omega)
     ·exact .inl h
     ·have:=h.1;exact .inr (by omega)
end
variable {ft:CX}
theorem Qo(n:Nat)(x:Int):FK (qg n) x=x:=by
 unfold FK;split
 ·next h=>
  rw[rh]at h;have hj:(x-1).toNat<n:=by omega
  have:(qg n)[(x-1).toNat]?=some (((x-1).toNat:Int)+1):=th hj
  rw[wh,this];show(((x-1).toNat:Int)+1)=x;omega
 ·rfl
section
variable {FL FR FS:Nat->Prop}{w:World}{W s r:Nat}{ey eC:List Ob}{c5 c6 c7 c8 c9 c10 c11:Value}
theorem W3.few(h:W3 ft FL FR FS w W s r ey eC c5 c6 c7 c8 c9 c10 c11):ey.length<=400/\eC.length=ey.length:=by
 obtain⟨_,_,hr⟩:=h.ref
 have:=hr.many
 have:=h.twin.1
 omega
theorem zf(h:W3 ft FL FR FS w W s r ey eC c5 c6 c7 c8 c9 c10 c11)(x:Int):gc 39 #[hh W,eJ x] w (Do (eJ x) w):=by
 have hf:=h.few;obtain⟨_,_,_,_,_,_,_,hl,_⟩:=h.law
 have:=Zs hl x (by rw[rh];exact hf.1)
 rw[Qo]at this;exact this
theorem oM(h:W3 ft FL FR FS w W s r ey eC c5 c6 c7 c8 c9 c10 c11)(j:Nat)(hj:j<ey.length):gc 41 #[hh W,eJ ((j:Int)+1)] w (Do (eJ (j:Int)) w):=by
 have hf:=h.few;obtain⟨_,_,_,_,_,_,_,hl,_⟩:=h.law
 have:=uh hl ((j:Int)+1) (by rw[rh];exact hf.1)
 have e:=Bg hj [];rw[ql]at e;rw[e]at this;exact this
theorem vJ(h:W3 ft FL FR FS w W s r ey eC c5 c6 c7 c8 c9 c10 c11)(x:Int)(hx:x<1\/(ey.length:Int)<x):gc 41 #[hh W,eJ x] w (Do (eJ (-1)) w):=by
 have hf:=h.few;obtain⟨_,_,_,_,_,_,_,hl,_⟩:=h.law
 have:=uh hl x (by rw[rh];exact hf.1)
 have e:=DT hx [] (fun _ h=>by cases h);rw[ql]at e;rw[e]at this;exact this
theorem xb(h:W3 ft FL FR FS w W s r ey eC c5 c6 c7 c8 c9 c10 c11)(j:Nat)(hj:j<ey.length):gc 42 #[hh W,eJ (j:Int)] w (Do (.int .i64 ey[j].kind) w):=by
 have hf:=h.few;obtain⟨_,_,_,_,_,_,_,hl,_⟩:=h.law
 have:=TP hl h.ref j (by omega)
 rw[(h.twin.2.1 j hj (by omega)).kind]at this;exact this
theorem Bn(h:gh ft F w s ey)(x:Int)(hk:eM ey x≠1):
  gc 40 #[hh s,eJ x] w (pB (.tuple #[.string ByteArray.empty,eJ 13]) w):=by
 refine(uV h x).mono fun e w' ⟨hf,a⟩=>⟨?_,a⟩;rcases hf with⟨_,h1⟩|⟨j,hj,b,h2,_⟩
 ·exact h1
 ·rw[b,tx hj]at hk;exact absurd h2 hk
theorem W3.obj(h:W3 ft FL FR FS w W s r ey eC c5 c6 c7 c8 c9 c10 c11)(j:Nat)(hj:j<ey.length)(hk:ey[j].kind=1):∃g cap,w.cell? (eI r 0)=some (.slice (some (eI g 0)) ey.length cap)/\r<w.heap.size/\g<w.heap.size/\w.cell? (eI g (j*4+1))=some (.string ey[j].data):=by
 have hf:=h.few;have b:=(h.twin.2.1 j hj (by omega)).data hk;obtain⟨a,cap,hr⟩:=h.ref;have hl:eC.length=ey.length:=hf.2;obtain⟨g,rfl,hg,q0,c,d,e⟩:=ko hr.row rfl (show j<eC.length by omega);refine⟨g,cap,?_,hr.lt,hg,?_⟩
 ·rw[<-hl];exact hr.c0
 ·rw[<-b];exact c
theorem IB(h:W3 ft FL FR FS w W s r ey eC c5 c6 c7 c8 c9 c10 c11)(a1 a a3:Int)(S T:eD)(la:fD)(lm lc:Nat)(c:a<1\/(ey.length:Int)<a):
  gc 20 #[hh W,.agg #[eJ 3,eJ a1,eJ a,eJ a3,.string S,.string T,.slice la lm lc]] w (pB (.bool true) w):=by
 obtain⟨t,u,v,x⟩:=h.law.cells;have b:∀B,ik w (w.alloc B):=fun B=>(lh _ _).alloc (kx _) _;have hid:=fun B=>zf (h.below (b B)) a;have d:=fun B=>Bn (h.below (b B)).uu a (by rw[Pl c];decide);have f:=fun B W2 (k:Below (w.alloc B).heap.size (w.alloc B) W2)=>vJ ((h.below (b B)).below k) a c;have g:=fun(W2:World)=>DC (W:=W) (w:=W2) (-1) (by decide);have i:=fun(e:Int) (l:World)=>IR e l;have m:Hid _:=hid;have n:Hid _:=d;have o:Hid _:=f;have p:Hid _:=g;have q:Hid _:=i;clear hid d f g i h c;go_enter func20,ntmps20;go_wp2_with(first
  |(go_at_call 39;refine io (m.out _) ?_;rintro _ _ ⟨rfl,rfl⟩)
  |(go_at_call 40;refine io (n.out _) ?_;rintro _ y ⟨rfl,j⟩)
  |(go_at_call 41;refine io (o.out _ _ j) ?_;rintro _ _ ⟨rfl,rfl⟩)
  |(go_at_call 42;refine io (p.out _) ?_;rintro _ _ ⟨rfl,rfl⟩)
  |(go_at_call 22;refine io (q.out _ _) ?_;rintro _ _ ⟨rfl,rfl⟩))
 go_ret;exact⟨rfl,(b _).trans (j.mono (by simp))⟩
theorem IC(h:W3 ft FL FR FS w W s r ey eC c5 c6 c7 c8 c9 c10 c11)(a1 a3:Int)(S T:eD)(la:fD)(lm lc:Nat)(j:Nat)(hj:j<ey.length)(hk:ey[j].kind≠1):
  gc 20 #[hh W,.agg #[eJ 3,eJ a1,eJ ((j:Int)+1),eJ a3,.string S,.string T,.slice la lm lc]] w (pB (.bool true) w):=by
 obtain⟨t,u,v,x⟩:=h.law.cells;have a:∀B,ik w (w.alloc B):=fun B=>(lh _ _).alloc (kx _) _;have hid:=fun B=>zf (h.below (a B)) ((j:Int)+1);have g:=fun B=>Bn (h.below (a B)).uu ((j:Int)+1) (by rw[tx hj];exact hk);have i:=fun B W2 (b:Below (w.alloc B).heap.size (w.alloc B) W2)=>oM ((h.below (a B)).below b) j hj;have c:=fun B W2 (b:Below (w.alloc B).heap.size (w.alloc B) W2)=>xb ((h.below (a B)).below b) j hj;have k:=fun(e:Int) (l:World)=>IR e l;obtain⟨d,oV⟩:∃d,d=ey[j].kind:=⟨_,rfl⟩;rw[<-oV]at hk c;have y:(d != 1)=true:=by simpa using hk
 have m:Hid _:=hid;have n:Hid _:=g;have o:Hid _:=i;have p:Hid _:=c;have q:Hid _:=k;clear hid g i c k h oV;go_enter func20,ntmps20;go_wp2_with(first
  |(go_at_call 39;refine io (m.out _) ?_;rintro _ _ ⟨rfl,rfl⟩)
  |(go_at_call 40;refine io (n.out _) ?_;rintro _ z ⟨rfl,f⟩)
  |(go_at_call 41;refine io (o.out _ _ f) ?_;rintro _ _ ⟨rfl,rfl⟩)
  |(go_at_call 42;refine io (p.out _ _ f) ?_;rintro _ _ ⟨rfl,rfl⟩)
  |(go_at_call 22;refine io (q.out _ _) ?_;rintro _ _ ⟨rfl,rfl⟩))
 go_ret;exact⟨rfl,(a _).trans (f.mono (by simp))⟩
theorem FU(h:W3 ft FL FR FS w W s r ey eC c5 c6 c7 c8 c9 c10 c11)(a1 a3:Int)(S T:eD)(la:fD)(lm lc:Nat)(j:Nat)(hj:j<ey.length)(hk:ey[j].kind=1):
  gc 20 #[hh W,.agg #[eJ 3,eJ a1,eJ ((j:Int)+1),eJ a3,.string S,.string T,.slice la lm lc]] w (pB (.bool true) w):=by
 obtain⟨D,E,F,G⟩:=h.law.cells;have hf:=h.few;have a:∀B,ik w (w.alloc B):=fun B=>(lh _ _).alloc (kx _) _;have hid:=fun B=>zf (h.below (a B)) ((j:Int)+1);have d:=fun B=>Bf (h.below (a B)).uu j hj hk;have k:=fun B W2 (b:Below (w.alloc B).heap.size (w.alloc B) W2)=>oM ((h.below (a B)).below b) j hj;have f:=fun B W2 (b:Below (w.alloc B).heap.size (w.alloc B) W2)=>xb ((h.below (a B)).below b) j hj;rw[hk]at f;have i:=fun B W2 (b:Below (w.alloc B).heap.size (w.alloc B) W2)=>W3.obj ((h.below (a B)).below b) j hj hk;have hw:=fun B W2 (b:Below (w.alloc B).heap.size (w.alloc B) W2)=>fZ.cells ((h.below (a B)).below b).law;have l:=fun(e:Int) (p:World)=>IR e p;obtain⟨m,o⟩:∃m,m=ey[j].data:=⟨_,rfl⟩;rw[<-o]at i d;have q:Hid _:=hid;have t:Hid _:=d;have u:Hid _:=k;have v:Hid _:=f;have x:Hid _:=l;have y:Hid _:=i;have z:Hid _:=hw;obtain⟨n,hn⟩:∃n,n=ey.length:=⟨_,rfl⟩;have H:(j:Int)<(n:Int):=by omega
 have A:Hid (n=ey.length):=hn;clear hid d k f l h i hw hn hk o;go_enter func20,ntmps20;go_wp2_with(first
  |(go_at_call 39;refine io (q.out _) ?_;rintro _ _ ⟨rfl,rfl⟩)
  |(go_at_call 40;refine io (t.out _) ?_;rintro _ I ⟨rfl,c⟩;obtain⟨_,J,K,_⟩:=z.out _ _ c;obtain⟨g,cap,C,L,M,N⟩:=y.out _ _ c;rw[<-A.out]at C)
  |(go_at_call 41;refine io (u.out _ _ c) ?_;rintro _ _ ⟨rfl,rfl⟩)
  |(go_at_call 42;refine io (v.out _ _ c) ?_;rintro _ _ ⟨rfl,rfl⟩)
  |(go_at_call 22;refine io (x.out _ _) ?_;rintro _ _ ⟨rfl,rfl⟩))
 go_ret;exact⟨rfl,(a _).trans (c.mono (by simp))⟩
theorem mX(h:W3 ft FL FR FS w W s r ey eC c5 c6 c7 c8 c9 c10 c11)(a:ik w w'):Stepped ft FL FR FS w w' W s r c5 c6 c7 c8 c9 c10 c11:=
 ⟨FL,FR,FS,ey,eC,h.below a,yq.refl,eA.eE a⟩
theorem Da(h:W3 ft FL FR FS w W s r ey eC c5 c6 c7 c8 c9 c10 c11)(a1 a a3:Int)(S T:eD)(la:fD)(lm lc:Nat):
  gc 20 #[hh W,.agg #[eJ 3,eJ a1,eJ a,eJ a3,.string S,.string T,.slice la lm lc]] w fun e w'=>e=.returned (.bool true)/\Stepped ft FL FR FS w w' W s r c5 c6 c7 c8 c9 c10 c11:=by
 by_cases d:a<1\/(ey.length:Int)<a
 ·exact(IB h a1 a a3 S T la lm lc d).mono fun e w' ⟨b,c⟩=>⟨b,mX h c⟩
 ·obtain⟨j,rfl⟩:∃j:Nat,a=(j:Int)+1:=⟨(a-1).toNat,by omega⟩
  have hj:j<ey.length:=by omega
  by_cases hk:ey[j].kind=1
  ·exact(FU h a1 a3 S T la lm lc j hj hk).mono fun e w' ⟨b,c⟩=>⟨b,mX h c⟩
  ·exact(IC h a1 a3 S T la lm lc j hj hk).mono fun e w' ⟨b,c⟩=>⟨b,mX h c⟩
theorem Db(h:W3 ft FL FR FS w W s r ey eC c5 c6 c7 c8 c9 c10 c11)(a1 i a3:Int)(S T:eD)(la:fD)(lm lc:Nat):
  gc 20 #[hh W,.agg #[eJ 5,eJ a1,eJ i,eJ a3,.string S,.string T,.slice la lm lc]] w fun e w'=>e=.returned (.bool true)/\Stepped ft FL FR FS w w' W s r c5 c6 c7 c8 c9 c10 c11:=by
 obtain⟨m,o,d,u⟩:=h.law.cells;obtain⟨B,j⟩:∃B:Obj,B=.cells #[eJ 5,eJ a1,eJ i,eJ a3,.string S,.string T,.slice la lm lc] 57:=⟨_,rfl⟩;obtain⟨b,f⟩:∃b,b=w.alloc B:=⟨_,rfl⟩;have c:ik w b:=by rw[f];exact(lh _ _).alloc (kx _) B
 have k:=fun q=>CY (h.below (iQ c q)).uu;have l:Hid _:=k;have v:=(c.cell (p:=(eI W 0)) d).trans m;have x:=(c.cell (p:=(eI W 1)) d).trans o;have hf:=h.few;have g:∃a cap,b.cell? (eI r 0)=some (.slice a ey.length cap)/\r<b.heap.size:=by
  obtain⟨a,cap,hr⟩:=(h.below c).ref;exact⟨a,cap,by rw[<-hf.2];exact hr.c0,hr.lt⟩
 obtain⟨y,z,g,A⟩:=g;have C:W<b.heap.size:=lO d c.size;have t:Hid (∀q,Stepped ft FL FR FS w (b.drewN q) W s r c5 c6 c7 c8 c9 c10 c11):=fun q=>mX h (iQ c q);obtain⟨n,hn⟩:∃n,n=ey.length:=⟨_,rfl⟩;rw[<-hn]at l g;clear k h hf hn;go_enter func20,ntmps20;go_wp2;rw[<-j,<-f];clear j f
 go_quiet (first|(go_at_call 45;exact Calls.quiet_of_same (l.out _)))
 go_wp2;go_ret;exact⟨rfl,t.out _⟩
end
variable {ft:CX}
theorem Ui(i:Nat):vH (i / 4)=Bi i:=rfl
structure Held (FH:Nat->Prop)(w:World)(ea:fD)(ec q:Nat)(hs:List gf):Prop where
 len:hs.length=4*q
 row:w.ownsRow 0 55 1 (.slice ea (4*q) ec) (4*q) (hs.map fP)
 own:∀g,(Value.slice ea (4*q) ec).ownBlock=some g->FH g
 lists:∀i (hi:i<hs.length),hs[i].2.1<=19/\((hs[i].1=none/\hs[i].2.1=0)\/∃g,hs[i].1=some ⟨g,0,none⟩/\FH g/\w.ownsRow 0 96 3 (fP hs[i]) hs[i].2.1 (flat (List.replicate hs[i].2.1 (vH (i / 4)))))
 lt:∀k,FH k->k<w.heap.size
theorem Held.keep{ec q:Nat}(h:Held FH w ea ec q hs)(hk:∀k,FH k->w'.heap[k]?=w.heap[k]?)(b:w.heap.size<=w'.heap.size):Held FH w' ea ec q hs:=
 ⟨h.len,eQ h.row (fun g hg=>hk g (h.own g hg)),h.own,fun i hi=>⟨(h.lists i hi).1,by
  rcases(h.lists i hi).2 with e|⟨g,a,e2,c⟩
  ·exact .inl e
  ·exact .inr ⟨g,a,e2,eQ c (fun x hx=>by
    have:x=g:=by unfold fP at hx;rw[a]at hx;exact(zQ hx).symm
    rw[this];exact hk g e2)⟩⟩,fun k d=>lO (h.lt k d) b⟩
theorem Held.full{ec q:Nat}(h:Held FH w ea ec q hs):∀i (hi:i<hs.length),Full w i hs[i]:=by
 intro i hi j hj;rcases(h.lists i hi).2 with⟨_,e⟩|⟨g,b,_,a⟩
 ·omega
 ·unfold fP at a
  rw[b]at a;obtain⟨c,d,f⟩:=ld (off:=0) (jn a) (i:=j) (by simpa using hj);rw[iP,List.getElem_replicate,Ui]at c d f;exact⟨g,b,c,d,f⟩
section
variable {FL FR FS FH:Nat->Prop}{w:World}{W s r:Nat}{ey eC:List Ob}{c5 c6 c7 c8 c9 c10 c11:Value}{ea:fD}{ec q:Nat}{hs:List gf}
theorem W3.block(h:W3 ft FL FR FS w W s r ey eC c5 c6 c7 c8 c9 c10 c11):∃a a1 a2 a3 b,w.heap[W]?=some (.cells #[a,a1,a2,a3,b,c5,c6,c7,c8,c9,c10,c11] 71 (0,0)):=by
 obtain⟨_,_,_,_,_,_,_,hl,_⟩:=h.law;exact⟨_,_,_,_,_,hl.hW⟩
theorem DY{C a1 a2 a3 D:Value}{la:fD}(h:W3 ft FL FR FS w W s r ey eC c5 c6 c7 c8 (.slice ea (4*q) ec) c10 c11)(a:Held FH w ea ec q hs)(hap:∀k,FH k->¬F3 FL FR FS k)(hm:m<=16)
  (l:∀g,(Value.slice la m m).ownBlock=some g->¬F3 FL FR FS g/\¬FH g/\g<w.heap.size)(J:la=none->m=0)(hW:w.heap[W]?=some (.cells #[C,a1,a2,a3,D,c5,c6,c7,c8,.slice ea (4*q) ec,c10,c11] 71 (0,0)))
  (hk:ur w w' W q #[C,a1,a2,a3,D,c5,c6,c7,c8,.slice ea (4*q) ec,c10,c11] ea ec la m hs):
  ∃u E F K,W3 ft FL FR FS w' W s r ey eC c5 c6 c7 c8 (.slice E (4*(q+1)) F) c10 c11/\Held u w' E F (q+1) K/\(∀k,u k->¬F3 FL FR FS k)/\(∀k,u k->FH k\/w.heap.size<=k\/some k=(Value.slice la m m).ownBlock)/\
   eA (fun k=>k=W\/FH k\/some k=(Value.slice la m m).ownBlock) w w':=by
 obtain⟨G,c4,ga,V,X,Y,Z,aa,L,H,M,k4,k5,N,O,f⟩:=hk;have z:=f.size;have fW:FL W:=by obtain⟨_,_,_,_,_,_,_,hl,_⟩:=h.law;exact hl.fw
 have keep:∀k,k<w.heap.size->k≠W->¬FH k->(∀g,(Value.slice la m m).ownBlock=some g->k≠g)->w'.heap[k]?=w.heap[k]?:=fun k y hk2 P Q=>f.block k y (by
  rintro(e|e|e)
  ·exact hk2 e
  ·exact P (a.own k e.symm)
  ·exact Q k e.symm rfl)
 have n3:∀k,F3 FL FR FS k->¬FH k:=fun k hk hf=>hap k hf hk;have A:∀k,F3 FL FR FS k->∀g,(Value.slice la m m).ownBlock=some g->k≠g:=fun k hk g hg e=>(l g hg).1 (e▸hk);have R:fZ FL w' W s r ey.length c5 c6 c7 c8 (.slice (some (eI G 0)) (4*(q+1)) c4) c10 c11:=by
  obtain⟨ia,ka,pa,ic,kc,pc,paths,hl,hp⟩:=h.law;have row:∀{t:gi} {v:Value} {n:Nat} {xs:fQ},w.ownsRow 0 t 1 v n xs->71≠t->(∀g,v.ownBlock=some g->FL g)->w'.ownsRow 0 t 1 v n xs:=fun hr ht hf=>eQ hr (fun g hg=>keep g (eK hr hg) (fun e=>fX hr hl.hW ht (by rw[<-e];exact hg.symm)) (n3 g (.inl (hf g hg))) (A g (.inl (hf g hg))));refine⟨ia,ka,pa,ic,kc,pc,paths,⟨hl.fw,?_,row hl.lW (by decide) hl.fi,row hl.pz (by decide) hl.fk,row hl.qc (by decide) hl.fp,hl.fi,hl.fk,hl.fp⟩,hp⟩;have e:=hW.symm.trans hl.hW;simp only[mZ,Tc,KV,sG,wC]at e;obtain⟨S,o,e2,p,T⟩:=e;rw[L,S,o,e2,p,T];rfl
 have I:∀k,FR k\/FS k->k≠W:=fun k hk e=>by
  rcases hk with h1|h1
  ·exact(h.sep.rl k h1).2 (e▸fW)
  ·exact(h.sep.sl k h1).2 (e▸fW)
 refine⟨fun k=>FH k\/(some k=(Value.slice la m m).ownBlock)\/(w.heap.size<=k/\k<w'.heap.size),some (eI G 0),c4,_,⟨R,h.ref.keep (fun _ h=>h) (fun k hk=>keep k (h.sep.rl k hk).1 (I k (.inl hk)) (n3 k (.inr (.inl hk))) (A k (.inr (.inl hk)))),gh.keep h.uu (fun _ h=>h) (fun k hk=>keep k (h.sep.sl k hk).1 (I k (.inr hk)) (n3 k (.inr (.inr hk))) (A k (.inr (.inr hk)))),h.twin,h.at_,h.sep.below z⟩,
  ⟨?_,H,?_,?_,?_⟩,?_,?_,⟨f.os,f.tape,f.output,f.size,fun k y hn=>f.block k y (by rintro(e|e|e);exact hn (.inl e);exact hn (.inr (.inl (a.own k e.symm)));exact hn (.inr (.inr e)))⟩⟩
 ·simp[a.len];omega
 ·intro g hg
  simp only[Value.ownBlock,mZ]at hg;subst hg;rcases O with e|e
  ·exact .inl (a.own _ e.symm)
  ·exact .inr (.inr ⟨e,eK H rfl⟩)
 ·intro i hi
  by_cases B:i<hs.length
  ·rw[KM B]
   refine⟨(a.lists i B).1,?_⟩;rcases(a.lists i B).2 with e|⟨g,o,e2,p⟩
   ·exact .inl e
   ·refine .inr ⟨g,o,.inl e2,eQ p (fun x hx=>?_)⟩
    have U:x=g:=by unfold fP at hx;rw[o]at hx;exact(zQ hx).symm
    subst U;refine f.block x (a.lt x e2) ?_;rintro(e|e|e)
    ·subst e;exact hap _ e2 (.inl fW)
    ·exact px p a.row (by decide) hx e
    ·exact(l x e.symm).2.1 e2
  ·obtain⟨d,rfl⟩:∃d,i=hs.length+d:=⟨i-hs.length,by omega⟩
   have hd:d<4:=by simp at hi;omega
   rw[WK (by omega)];have hq:(hs.length+d) / 4=q:=by rw[a.len];omega
   simp only[Pj,hq];have new:∀{g n c:Nat},w'.ownsRow w.heap.size 96 3 (.slice (some (eI g 0)) n c) n (flat (List.replicate n (vH q)))->∃j,(some (eI g 0):fD)=some (eI j 0)/\(FH j\/(some j=(Value.slice la m m).ownBlock)\/(w.heap.size<=j/\j<w'.heap.size))/\w'.ownsRow 0 96 3 (.slice (some (eI g 0)) n c) n (flat (List.replicate n (vH q))):=fun {g n c} hr=>⟨g,rfl,.inr (.inr (hr.lt g rfl)),pj hr (tk _)⟩
   match d,hd with
   |0,_=>
    refine⟨show m<=19 by omega,?_⟩;cases la with
    |none=>exact .inl ⟨rfl,J rfl⟩
    |some b=>
     obtain⟨g,rfl,hr⟩:=M b rfl;exact .inr ⟨g,rfl,.inr (.inl rfl),hr⟩
   |1,_=>exact⟨show m+1<=19 by omega,.inr (new k4)⟩
   |2,_=>exact⟨show m+2<=19 by omega,.inr (new k5)⟩
   |3,_=>exact⟨show m+3<=19 by omega,.inr (new N)⟩
 ·rintro k (hk|hk|hk)
  ·exact lO (a.lt k hk) z
  ·exact lO (l k hk.symm).2.2 z
  ·exact hk.2
 ·rintro k (hk|hk|hk) hf
  ·exact hap k hk hf
  ·exact(l k hk.symm).1 hf
  ·have:k<w.heap.size:=by
    rcases hf with h1|h1|h1
    ·exact h.sep.ll k h1
    ·exact(h.sep.rl k h1).1
    ·exact(h.sep.sl k h1).1
   omega
 ·rintro k (hk|hk|hk)
  ·exact .inl hk
  ·exact .inr (.inr hk)
  ·exact .inr (.inl hk.1)
def rE (ft:CX)(FL FR FS FH:Nat->Prop)(w w':World)(W s r q:Nat)(c5 c6 c7 c8 c10 c11:Value):Prop:=
 ∃LC LD LF a ky iy b c d,W3 ft LC LD LF w' W s r ky iy c5 c6 c7 c8 (.slice b (4*q) c) c10 c11/\Held a w' b c q d/\(∀k,a k->¬F3 LC LD LF k)/\
  yq FL FR FS LC LD LF w.heap.size/\(∀k,a k->FH k\/w.heap.size<=k)/\eA (fun k=>F3 FL FR FS k\/FH k) w w'
theorem xd(h:W3 ft FL FR FS w W s r ey eC c5 c6 c7 c8 (.slice ea (4*q) ec) c10 c11)(a:Held FH w ea ec q hs)(hap:∀k,FH k->¬F3 FL FR FS k)(c:Stepped ft FL FR FS w w' W s r c5 c6 c7 c8 (.slice ea (4*q) ec) c10 c11):rE ft FL FR FS FH w w' W s r q c5 c6 c7 c8 c10 c11:=by
 obtain⟨LC,LD,LF,ky,iy,h3,b,hk⟩:=c;refine⟨LC,LD,LF,FH,ky,iy,ea,ec,hs,h3,a.keep (fun k hf=>hk.block k (a.lt k hf) (hap k hf)) hk.size,fun k hf d=>?_,b,fun k f=>.inl f,⟨hk.os,hk.tape,hk.output,hk.size,fun k g hn=>hk.block k g (fun h=>hn (.inl h))⟩⟩
 ·rcases b.all k d with e|e
  ·exact hap k hf e
  ·have:=a.lt k hf;omega
end
variable {ft:CX}
theorem Zz{t:gi}(P:Program)(W:World)(x y:eN)(h:(binOp .eql t (.agg #[.string x.1,eJ x.2.1,eJ x.2.2]) (.agg #[.string y.1,eJ y.2.1,eJ y.2.2])).run P W=(if x.fst.toList=y.fst.toList then
   if x.snd.fst=y.snd.fst then
    if x.snd.snd=y.snd.snd then Result.ok (Value.bool true) W else Result.ok (Value.bool false) W
   else Result.ok (Value.bool false) W
  else Result.ok (Value.bool false) W)):(binOp .eql t (.agg #[.string x.1,eJ x.2.1,eJ x.2.2]) (.agg #[.string y.1,eJ y.2.1,eJ y.2.2])).run P W=.ok (.bool (decide (x=y))) W:=by
 rw[h];by_cases e:x=y
 ·subst e;simp
 ·rw[rk e]
  split
  ·next h1=>
   split
   ·next h2=>
    split
    ·next h3=>exact absurd (Ay (sJ h1) (Ay h2 h3)) e
    ·rfl
   ·rfl
  ·rfl
theorem Uj(W:World)(x y:eN):(binOp .eql 96 (.agg #[.string x.1,eJ x.2.1,eJ x.2.2]) (.agg #[.string y.1,eJ y.2.1,eJ y.2.2])).run prog W=.ok (.bool (decide (x=y))) W:=by
 refine Zz _ W x y ?_
 go_simp
section
variable {FL FR FS FH:Nat->Prop}{w:World}{W s r:Nat}{ey eC:List Ob}{c5 c6 c7 c8 c9 c10 c11:Value}{ea:fD}{ec q:Nat}{hs:List gf}
theorem Uk(h:W3 ft FL FR FS w W s r ey eC c5 c6 c7 c8 c9 c10 c11)(j:Nat)(hj:j<ey.length):
  gc 37 #[hh W,eJ (j:Int),eJ ((j:Int)+1)] w fun e w'=>e=.returned (.bool true)/\W3 ft (kp FL w w') FR FS w' W s r ey eC c5 c6 c7 c8 c9 c10 c11/\eA FL w w':=by
 have a:=h.sep;have c:∀w':World,eA FL w w'->Sep w' (kp FL w w') FR FS:=fun w' hk=>⟨fun k b=>by rcases b with h|h;exact lO (a.ll k h) hk.size;exact h.2,
   fun k b=>⟨lO (a.rl k b).1 hk.size,fun h=>by rcases h with h|h;exact(a.rl k b).2 h;have:=(a.rl k b).1;omega⟩,
   fun k b=>⟨lO (a.sl k b).1 hk.size,fun h=>by rcases h with h|h;exact(a.sl k b).2 h;have:=(a.sl k b).1;omega⟩,a.rs⟩
 exact(rA h.law h.ref a.rl h.twin.1.symm h.at_ j hj).mono fun e w' ⟨d,f,hk⟩=>⟨d,⟨f,nZ h.ref a.rl hk,gh.keep h.uu (fun _ h=>h) (fun k b=>hk.block k (a.sl k b).1 (a.sl k b).2),h.twin,h.at_,c w' hk⟩,hk⟩
theorem Qp(h:gh ft F w s ey)(x:Int)(hk:eM ey x≠2):
  gc 43 #[hh s,eJ x] w (pB (.tuple #[.slice none 0 0,eJ 13]) w):=by
 refine(wY h x).mono fun e w' ⟨hf,a⟩=>⟨?_,a⟩;rcases hf with⟨_,h1⟩|⟨j,hj,b,h2,_⟩
 ·exact h1
 ·rw[b,tx hj]at hk;exact absurd h2 hk
theorem ID(W s r:Nat)(ey eC:List Ob)(c5 c6 c7 c8 c9 c10 c11:Value)(x:Int)(hx:eM ey x≠2):∃a b:Int,b≠2/\∀{FL FR FS:Nat->Prop} (w:World),W3 ft FL FR FS w W s r ey eC c5 c6 c7 c8 c9 c10 c11->
  gc 41 #[hh W,eJ x] w ((Do (eJ a) w))/\gc 42 #[hh W,eJ a] w ((Do (eJ b) w)):=by
 by_cases c:x<1\/(ey.length:Int)<x
 ·exact⟨-1,0,by decide,fun w h=>⟨vJ h x c,DC (-1) (by decide)⟩⟩
 ·obtain⟨j,rfl⟩:∃j:Nat,x=(j:Int)+1:=⟨(x-1).toNat,by omega⟩
  have hj:j<ey.length:=by omega
  rw[tx hj]at hx;exact⟨j,ey[j].kind,hx,fun w h=>⟨oM h j hj,xb h j hj⟩⟩
theorem IE(h:W3 ft FL FR FS w W s r ey eC c5 c6 c7 c8 (.slice ea (4*q) ec) c10 c11)(d:Held FH w ea ec q hs)(hap:∀k,FH k->¬F3 FL FR FS k)(hq:4*q<=1000000000)(a1 i a3:Int)(S T:eD)(la:fD)(lm lc:Nat)(m:eM ey i≠2):
  gc 20 #[hh W,.agg #[eJ 4,eJ a1,eJ i,eJ a3,.string S,.string T,.slice la lm lc]] w fun e w'=>e=.returned (.bool true)/\rE ft FL FR FS FH w w' W s r (q+1) c5 c6 c7 c8 c10 c11:=by
 obtain⟨ac,ad,n,J⟩:=h.law.cells;obtain⟨u,v,x,y,z,hW⟩:=h.block;have o:∀B,ik w (w.alloc B):=fun B=>(lh _ _).alloc (kx _) _;have f:∀B W2,Below (w.alloc B).heap.size (w.alloc B) W2->ik w W2:=fun B W2 c=>(o B).trans (c.mono (by simp));have hid:=fun B=>zf (h.below (o B)) i;have A:=fun B=>Qp (h.below (o B)).uu i m;obtain⟨ae,K,C,p⟩:=ID W s r ey eC c5 c6 c7 c8 (.slice ea (4*q) ec) c10 c11 i m;have D:=fun B W2 (c:Below (w.alloc B).heap.size (w.alloc B) W2)=>(p W2 (h.below (f B W2 c))).1;have E:=fun B W2 (c:Below (w.alloc B).heap.size (w.alloc B) W2)=>(p W2 (h.below (f B W2 c))).2;have F:=fun(e:Int) (L:World)=>IR e L;have G:=fun B W2 (c:Below (w.alloc B).heap.size (w.alloc B) W2)=>rZ W q #[u,v,x,y,z,c5,c6,c7,c8,.slice ea (4*q) ec,c10,c11] ea ec 0 none hs W2 (((f B W2 c).block W n).trans hW) rfl d.len hq (eQ d.row (fun g hg=>(f B W2 c).block g (eK d.row hg))) (by omega) ⟨fun _=>rfl,fun b h=>by cases h⟩;have M:Hid (∀B W2 t,Below (w.alloc B).heap.size (w.alloc B) W2->ur W2 t W q #[u,v,x,y,z,c5,c6,c7,c8,.slice ea (4*q) ec,c10,c11] ea ec none 0 hs->rE ft FL FR FS FH w t W s r (q+1) c5 c6 c7 c8 c10 c11):=fun B W2 t c hk=>by
  have a:=f B W2 c;obtain⟨N,O,P,Q,n1,n2,n3,R,j⟩:=DY (h.below a) (d.keep (fun k hk=>a.block k (d.lt k hk)) a.size) hap (tk _) (fun g hg=>by cases hg) (fun _=>rfl) ((a.block W n).trans hW) hk;refine⟨FL,FR,FS,N,ey,eC,O,P,Q,n1,n2,n3,yq.refl,fun k e=>?_,⟨j.os.trans a.os,j.tape.trans a.tape,j.output.trans a.output,wl a.size j.size,fun k hk hn=>?_⟩⟩
  ·rcases R k e with e|e|e
   ·exact .inl e
   ·exact .inr (wl a.size e)
   ·cases e
  ·rw[j.block k (lO hk a.size) ?_]
   ·exact a.block k hk
   ·rintro(e|e|e)
    ·exact hn (.inl (.inl (e▸J)))
    ·exact hn (.inr e)
    ·cases e
 have af:(K==2)=false:=by simpa using C
 have U:Hid _:=hid;have V:Hid _:=A;have X:Hid _:=D;have Y:Hid _:=E;have Z:Hid _:=F;have aa:Hid _:=G;clear hid A D E F h d hap p G hW m C;go_enter func20,ntmps20;go_wp2_with(first
  |(go_at_call 39;refine io (U.out _) ?_;rintro _ _ ⟨rfl,rfl⟩)
  |(go_at_call 43;refine io (V.out _) ?_;rintro _ ag ⟨rfl,l⟩;have ah:=lO n (f _ _ l).size)
  |(go_at_call 41;refine io (X.out _ _ l) ?_;rintro _ _ ⟨rfl,rfl⟩)
  |(go_at_call 42;refine io (Y.out _ _ l) ?_;rintro _ _ ⟨rfl,rfl⟩)
  |(go_at_call 22;refine io (Z.out _ _) ?_;rintro _ _ ⟨rfl,rfl⟩)
  |(go_at_call 44;refine io (aa.out _ _ l) ?_;rintro _ ai ⟨rfl,H⟩;have I:=M.out _ _ _ l H;clear H;have ab:Hid _:=I;clear I))
 go_ret;exact⟨rfl,ab.out⟩
theorem W3.items(h:W3 ft FL FR FS w W s r ey eC c5 c6 c7 c8 c9 c10 c11)(j:Nat)(hj:j<ey.length)(hk:ey[j].kind=2):∃g cap ia ic,w.cell? (eI r 0)=some (.slice (some (eI g 0)) ey.length cap)/\r<w.heap.size/\g<w.heap.size/\
  w.cell? (eI g (j*4+2))=some (.slice ia ey[j].eR.length ic)/\w.ownsRow 0 112 3 (.slice ia ey[j].eR.length ic) ey[j].eR.length (flat (ey[j].eR.map fH)):=by
 have hf:=h.few;have hx:=(h.twin.2.1 j hj (by omega)).eR hk;obtain⟨a,cap,hr⟩:=h.ref;have b:j<eC.length:=by omega
 obtain⟨g,rfl,hg,q0,e,d,f⟩:=ko hr.row rfl b;have c:=hr.zV _ (kj b);have hle:ey[j].eR.length=eC[j].el:=by rw[<-c.len,hx,nD]
 refine⟨g,cap,eC[j].ea,eC[j].ec,?_,hr.lt,hg,?_,?_⟩
 ·rw[<-hf.2];exact hr.c0
 ·rw[hle];exact d
 ·rw[hle,<-hx];exact c.row
theorem W3.aac(h:W3 ft FL FR FS w W s r ey eC c5 c6 c7 c8 c9 c10 c11)(j:Nat)(hj:j<ey.length)(hk:ey[j].kind=2):ey[j].eR.length<=16/\∀e∈ey[j].eR,1<=e.2.2/\e.2.2<=(j:Int):=by
 have hf:=h.few;have hx:=(h.twin.2.1 j hj (by omega)).eR hk;have b:=h.at_ j (by omega);obtain⟨a,cap,hr⟩:=h.ref;have d:j<eC.length:=by omega
 have c:=hr.zV _ (kj d);have hle:ey[j].eR.length=eC[j].el:=by rw[<-c.len,hx,nD]
 refine⟨by rw[hle];exact c.few,fun e f=>?_⟩;rw[hx]at b
 have:0<=e.2.2-1/\e.2.2-1<(j:Int):=b (fH e) (CM f)
 omega
theorem W3.ids(h:W3 ft FL FR FS w W s r ey eC c5 c6 c7 c8 c9 c10 c11)(i:Nat)(hi:i<ey.length):∃g c,w.cell? (eI W 2)=some (.slice (some (eI g 0)) ey.length c)/\g<w.heap.size/\w.cell? (eI g i)=some (eJ ((i:Int)+1)):=by
 obtain⟨ia,_,_,ic,_,_,_,hl,_⟩:=h.law;obtain⟨g,rfl,a,b,_⟩:=row_one hl.lW (i:=i) (v:=.int .i64 ((i:Int)+1)) (by simp[encI,th hi]);refine⟨g,ic,?_,a,b⟩
 have:=hl.c2
 rw[rh]at this;exact this
end
end Go.Proofs.YtlgidcmmgohagaaGreat
