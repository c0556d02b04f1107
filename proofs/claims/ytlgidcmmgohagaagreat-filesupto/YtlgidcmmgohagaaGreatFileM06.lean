/- What is proved here: the store's answers and the jX are one. -/
import Derived.Test.YtlgidcmmgohagaaGreatFileM05
import Derived.Test.YtlgidcmmgohagaaGreatFileM02
import Derived.BigQuiet
namespace Go.Proofs.YtlgidcmmgohagaaGreat
open Go.RowKit Go.Sort Go.Shelf Go.Proofs.Tryz
set_option linter.unusedVariables false
set_option maxRecDepth 100000
set_option maxHeartbeats 16000000
variable {hs:List fJ}{ec id x y:Int}{ei ip ep IR:List Ob}{ls:List eD}{F FH FL GY FR GZ FS G0:Nat->Prop}{m n:Nat}{e:eD}{w w':World}{ea:e5}{d:eu}
def Twin (ei ep:List Ob):Prop:=ei.length=ep.length/\(∀i (h1:i<ei.length) (h2:i<ep.length),sy ei[i] ep[i])/\∀o∈ei,o.kind=1\/o.kind=2
theorem oL{a b:Type}(p:a->Bool)(q:b->Bool):∀(xs:List a) (ys:List b),xs.length=ys.length->(∀i (h1:i<xs.length) (h2:i<ys.length),p xs[i]=q ys[i])->xs.findIdx? p=ys.findIdx? q
 |[],[],_,_=>rfl
 |[],_::_,h,_=>by simp at h
 |_::_,[],h,_=>by simp at h
 |x::xs,y::ys,h,hp=>by
  have h0:=hp 0 (by simp) (by simp)
  simp only[Gc]at h0
  rw[Gj,Gj,h0,oL p q xs ys (by simpa using h) (fun i h1 h2=>by have:=hp (i+1) (by simpa using h1) (by simpa using h2);simpa using this)]
theorem G1{a b:eD}(h:e9 a=e9 b):a=b:=by
 unfold e9 at h;simp only[rN]at h;obtain⟨h1,h2,h3⟩:=h;exact xN h1 (xN h2 (by omega))
theorem tZ{c d:Type}(f:c->d)(hf:∀a b,f a=f b->a=b):∀(xs ys:List c),xs.map f=ys.map f->xs=ys
 |[],[],_=>rfl
 |[],_::_,h=>by simp at h
 |_::_,[],h=>by simp at h
 |x::xs,y::ys,h=>by
  simp only[WF,pS]at h
  rw[hf x y h.1,tZ f hf xs ys h.2]
theorem KV(h:Twin ei ep)(d:eu):findAt ep (sq d)=fileAt ei d:=by
 refine(oL _ _ ei ep h.1 fun i h1 h2=>?_).symm;have a:=h.2.1 i h1 h2;unfold k6 sq;by_cases hk:ei[i].kind=1
 ·rw[a.kind,hk,a.data hk,a.none hk];simp
 ·rw[a.kind];simp[hk]
theorem Oa(h:Twin ei ep)(v:e5×Nat)(m:Nat)(es:List eD):findAt ep (GH v m (es.map e9))=kJ ei es:=by
 refine(oL _ _ ei ep h.1 fun i h1 h2=>?_).symm;have a:=h.2.1 i h1 h2;unfold k6 GH;by_cases hk:ei[i].kind=2
 ·rw[a.kind,hk,a.empty hk,a.eG hk]
  have:decide (ei[i].eG.map e9=es.map e9)=decide (ei[i].eG=es):=by
   by_cases e:ei[i].eG=es
   ·rw[e];simp
   ·rw[m6 e,m6 (fun h=>e (tZ e9 (fun a b=>G1) _ _ h))]
  rw[this];simp
 ·rw[a.kind];simp[hk]
theorem Oc{a:Type}(p:a->Bool):∀(l:List a) {y:a},y∈l.takeWhile p->p y=true
 |[],y,h=>by cases h
 |x::l,y,h=>by
  cases hx:p x with
  |true=>
   rw[List.takeWhile_cons_of_pos hx]at h
   rcases Hd.1 h with rfl|h
   ·exact hx
   ·exact Oc p l h
  |false=>
   rw[List.takeWhile_cons_of_neg (by simp[hx])]at h
   cases h
theorem Ed{out:List eD}{x:eD}(h:yr out)(hx:∀y∈out,y.1≠x.1):yr (tC out x):=by
 unfold tC;have f:=List.takeWhile_append_dropWhile (p:=fun y:eD=>X1 y.1 x.1) (l:=out);have k:yr (out.takeWhile (fun y=>X1 y.1 x.1)++out.dropWhile (fun y=>X1 y.1 x.1)):=by rw[f];exact h
 obtain⟨m,d,n⟩:=List.pairwise_append.1 k;have low:∀y∈out.takeWhile (fun y=>X1 y.1 x.1),zU y x<0:=fun y c=>by
  have:=Oc _ _ c
  unfold X1 at this;exact s8 this
 have high:∀y∈out.dropWhile (fun y=>X1 y.1 x.1),zU x y<0:=by
  cases hd:out.dropWhile (fun y=>X1 y.1 x.1) with
  |nil=>intro y c;cases c
  |cons z q=>
   have g:X1 z.1 x.1=false:=by
    have:=List.head?_dropWhile_not (p:=fun y:eD=>X1 y.1 x.1) out
    rw[hd]at this;simpa using this
   have o:z∈out:=by rw[<-f,hd];simp
   have i:zU x z<0:=by
    unfold zU;unfold X1 at g;have hn:=Qh g;have r:=lX z.1.data.toList x.1.data.toList;by_cases h0:Lib.compareBytes z.1.data.toList x.1.data.toList=0
    ·exact absurd (bytes_inj (iW _ _ h0)) (hx z o)
    ·omega
   intro y c;rcases Hd.1 c with rfl|c
   ·exact i
   ·rw[hd]at d
    exact jV _ _ _ i ((pK.1 d).1 y c)
 refine List.pairwise_append.2 ⟨m,pK.2 ⟨high,d⟩,fun a j b e=>?_⟩;rcases Hd.1 e with rfl|e
 ·exact low a j
 ·exact n a j b e
theorem mS:∀(ls out:List eD),yr out->((ls++out).map (·.1)).Nodup->yr (ls.foldl tC out)
 |[],out,h,_=>h
 |x::r,out,h,hn=>by
  rw[xH]
  have a:(x.1::((r++out).map (·.1))).Nodup:=by simpa using hn
  obtain⟨n1,n2⟩:=Nk.1 a
  refine mS r (tC out x) (Ed h fun y b e=>n1 (by rw[<-e];exact zP (Qv _ b))) ?_
  have hp:(r++tC out x).Perm (x::(r++out)):=((AA out x).append_left r).trans List.perm_middle
  exact(hp.map (·.1)).nodup_iff.2 (by simpa using a)
theorem rR(hn:(ls.map (·.1)).Nodup):yr (wl ls):=mS ls [] List.Pairwise.nil (by simpa using hn)
theorem rS:∀{xs ys:List eD},yr xs->yr ys->xs.Perm ys->xs=ys
 |[],ys,_,_,h=>(List.nil_perm.1 h).symm▸rfl
 |x::xs,[],_,_,h=>by have:=h.length_eq;simp at this
 |x::xs,y::ys,hx,f,h=>by
  have g:∀a:eD,¬zU a a<0:=fun a=>by unfold zU;rw[pU];omega
  obtain⟨i,j⟩:=pK.1 hx
  obtain⟨k,l⟩:=pK.1 f
  have e:x=y:=by
   have c:x∈y::ys:=h.mem_iff.1 (ir ..);have d:y∈x::xs:=h.mem_iff.2 (ir ..);rcases Hd.1 c with e|c
   ·exact e
   ·rcases Hd.1 d with e|d
    ·exact e.symm
    ·have a:=k x c
     have b:=i y d;exact absurd (jV _ _ _ a b) (g y)
  subst e;rw[rS j l (List.Perm.cons_inv h)]
def AC (n:Nat)(e:eD):eD:=(e.1,e.2.1,if 1<=e.2.2/\e.2.2<=(n:Int)then e.2.2-1 else -1)
theorem QU(h:1<=e.2.2/\e.2.2<=(n:Int)):AC n e=e9 e:=by unfold AC e9;rw[fY h]
theorem KW(h:Twin ei ep){j:Nat}(hj:j<ei.length):ei[j].kind≠0:=by
 rcases h.2.2 _ (iF hj)with e|e<;>rw[e]<;>decide
theorem AW(h:Twin ei ep)(e:eD):jw ep (AC ei.length e)=tA ei e:=by
 unfold jw tA AC;by_cases hr:1<=e.2.2/\e.2.2<=(ei.length:Int)
 ·obtain⟨j,hj⟩:∃j:Nat,e.2.2=(j:Int)+1:=⟨(e.2.2-1).toNat,by omega⟩
  have a:j<ei.length:=by omega
  have c:j<ep.length:=by rw[<-h.1];exact a
  simp only[hr,and_self,Gr];rw[hj,o0 a,show((j:Int)+1-1)=(j:Int) by omega,lV,gJ c];have hk:=(h.2.1 j a c).kind;have h0:=KW h a;simp only[jS,nG,hk];rw[jT (by omega)];have d:(ei[j].kind==0)=false:=by simpa using h0
  rw[d];by_cases b:ei[j].kind=e.2.1
  ·rw[jT b,beq_iff_eq.2 b];rfl
  ·rw[m6 b,beq_false_of_ne b];rfl
 ·rw[eJ hr,wd (by omega)]
  simp
theorem yt(h:tA ei e=true):1<=e.2.2/\e.2.2<=(ei.length:Int):=by
 by_cases hid:e.2.2<1\/(ei.length:Int)<e.2.2
 ·unfold tA at h;rw[wd hid]at h;simp at h
 ·omega
theorem KX(h:Twin ei ep)(hg:tA ei e=true):vR ep (AC ei.length e)=eY ei e.2.2:=by
 have hr:=yt hg;obtain⟨j,hj⟩:∃j:Nat,e.2.2=(j:Int)+1:=⟨(e.2.2-1).toNat,by omega⟩;have a:j<ei.length:=by omega
 have b:j<ep.length:=by rw[<-h.1];exact a
 unfold vR AC;simp only[hr,and_self,Gr];rw[hj,uW a,show((j:Int)+1-1)=(j:Int) by omega,lV,gJ b];exact(h.2.1 j a b).high
theorem yu(h:Twin ei ep):∀(es:List eD) (a:Int),(∀e∈es,tA ei e=true)->(es.map (AC ei.length)).foldl (fun h e=>max h (1+vR ep e)) a=es.foldl (fun h e=>max h (1+eY ei e.2.2)) a
 |[],_,_=>rfl
 |e::r,a,hg=>by
  simp only[WF,xH]
  rw[KX h (hg e (ir ..))]
  exact yu h r _ (fun x hx=>hg x (mI _ hx))
theorem Od(n:Nat)(ls:List eD):(ls.map (AC n)).map (·.1)=ls.map (·.1):=by
 rw[BZ];rfl
def sG (ei ip ep IR:List Ob)(id ec x y:Int):Prop:=
 ec=y/\Twin ip IR/\((y≠0/\id=0/\ip=ei/\IR=ep)\/(y=0/\∃j:Nat,x=(j:Int)/\id=(j:Int)+1/\((ip=ei/\IR=ep/\j<ei.length)\/(j=ei.length/\ip.length=ei.length+1))))
theorem AX(h:Twin ei ep){o x:Ob}(b:sy o x)(hk:o.kind=1\/o.kind=2):Twin (ei++[o]) (ep++[x]):=by
 refine⟨by simp[h.1],fun i h1 h2=>?_,fun y a=>?_⟩
 ·by_cases hi:i<ei.length
  ·rw[Ge hi,Ge (by rw[<-h.1];exact hi)]
   exact h.2.1 i hi _
  ·have e:i=ei.length:=by simp at h1;omega
   subst e;have c:(ei++[o])[ei.length]=o:=by simp
   have e2:(ep++[x])[ei.length]'h2=x:=by simp[h.1]
   rw[c,e2];exact b
 ·rcases pR.1 a with a|a
  ·exact h.2.2 y a
  ·rw[kH.1 a];exact hk
theorem Ju{p:Ob->Bool}{i:Nat}(h:ei.findIdx? p=some i):i<ei.length:=(wX.1 h).1
theorem G2{e:Ending}(h:Twin ei ep)(hf:gL ei ip d e)(hr:tG ep IR d x y):
  ∃id ec,e=.returned (.tuple #[ed id,ed ec])/\sG ei ip ep IR id ec x y:=by
 have ht:=KV h d;rcases hf with⟨h1,h2,h3⟩|⟨h1,h2,i,h3,g⟩|⟨h1,h2,h3,g,j⟩|⟨h1,h2,h3,g,j⟩
 ·rcases hr with⟨_,b,c,f⟩|⟨a,_⟩
  ·subst h2 b c f
   exact⟨_,_,h3,rfl,h,.inl ⟨by decide,rfl,rfl,rfl⟩⟩
  ·omega
 ·rcases hr with⟨a,_⟩|⟨_,⟨k,a,b,c,f⟩|⟨a,_⟩|⟨a,_⟩⟩
  ·omega
  ·rw[ht,h3]at a
   cases a;subst h2 b c f;exact⟨_,_,g,rfl,h,.inr ⟨rfl,i,rfl,rfl,.inl ⟨rfl,rfl,Ju h3⟩⟩⟩
  ·rw[ht,h3]at a;cases a
  ·rw[ht,h3]at a;cases a
 ·rcases hr with⟨a,_⟩|⟨_,⟨k,a,b,c,f⟩|⟨a,b,c,f,l⟩|⟨a,b,_⟩⟩
  ·omega
  ·rw[ht,h2]at a;cases a
  ·subst g c f l
   exact⟨_,_,j,rfl,h,.inl ⟨by decide,rfl,rfl,rfl⟩⟩
  ·have:=h.1;omega
 ·rcases hr with⟨a,_⟩|⟨_,⟨k,a,b,c,f⟩|⟨a,b,_⟩|⟨a,b,c,f,l⟩⟩
  ·omega
  ·rw[ht,h2]at a;cases a
  ·have:=h.1;omega
  ·subst g c f l
   refine⟨_,_,j,rfl,AX h ⟨rfl,fun _=>rfl,fun h=>absurd h (show ¬(1:Int)=2 by decide),rfl,fun _=>rfl,fun h=>absurd h (show ¬(1:Int)=2 by decide)⟩ (.inl rfl),.inr ⟨rfl,ei.length,by rw[h.1],rfl,.inr ⟨rfl,by simp⟩⟩⟩
theorem KY{e:Ending}(h:Twin ei ep)(hf:gf ei ip ls e)(hr:tI ep IR (ls.map (AC ei.length)) x y):
  ∃id ec,e=.returned (.tuple #[ed id,ed ec])/\sG ei ip ep IR id ec x y:=by
 have nm:=Od ei.length ls;have val:(∃e∈ls.map (AC ei.length),ez e.1=false)↔∃e∈ls,ez e.1=false:=by
  constructor
  ·rintro⟨e,t,hv⟩
   obtain⟨a,p,rfl⟩:=H3.1 t;exact⟨a,p,hv⟩
  ·rintro⟨a,p,hv⟩
   exact⟨_,zP p,hv⟩
 have K:(∃e∈ls.map (AC ei.length),jw ep e=false)↔∃e∈ls,tA ei e=false:=by
  constructor
  ·rintro⟨e,t,hv⟩
   obtain⟨a,p,rfl⟩:=H3.1 t;exact⟨a,p,by rw[<-AW h];exact hv⟩
  ·rintro⟨a,p,hv⟩
   exact⟨_,zP p,by rw[AW h];exact hv⟩
 have Q:(ls.map (AC ei.length)).length=ls.length:=kU ..;have A:∀{P:eD->Bool} {l:List eD},(∀e∈l,P e=true)->¬ ∃e∈l,P e=false:=fun h1 ⟨e,t,hv⟩=>by rw[h1 e t]at hv;cases hv
 unfold tI at hr;rw[nm,Q,val,K]at hr;rcases hf with⟨f1,f2,f3⟩|⟨f1,hf⟩
 ·rcases hr with⟨_,d,f,g⟩|⟨b,_⟩
  ·subst f2 d f g
   exact⟨_,_,f3,rfl,h,.inl ⟨by decide,rfl,rfl,rfl⟩⟩
  ·exact absurd (val.2 f1) (A b)
 ·rcases hr with⟨b,_⟩|⟨_,hr⟩
  ·exact absurd b (A f1)
  ·rcases hf with⟨k,B,g3⟩|⟨k,B,g3,G⟩|⟨k,B,g3,G,R⟩|⟨k,B,g3,es',C,S,X,hg⟩
   ·rcases hr with⟨_,d,f,g⟩|⟨b,_⟩|⟨b,_⟩|⟨b,_⟩|⟨b,_⟩
    ·subst B d f g
     exact⟨_,_,g3,rfl,h,.inl ⟨by decide,rfl,rfl,rfl⟩⟩
    all_goals exact absurd b k
   ·rcases hr with⟨b,_⟩|⟨_,_,d,f,g⟩|⟨_,b,_⟩|⟨_,b,_⟩|⟨_,b,_⟩
    ·exact absurd k b
    ·subst g3 d f g
     exact⟨_,_,G,rfl,h,.inl ⟨by decide,rfl,rfl,rfl⟩⟩
    all_goals omega
   ·rcases hr with⟨b,_⟩|⟨_,b,_⟩|⟨_,_,_,d,f,g⟩|⟨_,_,b,_⟩|⟨_,_,b,_⟩
    ·exact absurd k b
    ·omega
    ·subst G d f g
     exact⟨_,_,R,rfl,h,.inl ⟨by decide,rfl,rfl,rfl⟩⟩
    all_goals exact absurd (K.2 g3) (A b)
   ·have L:∀z∈es',tA ei z=true:=fun z H=>g3 z (C.mem_iff.1 H)
    have I:ol ep (ls.map (AC ei.length))=fe ei es':=by
     rw[p4 ep (C.map (AC ei.length)).symm];exact yu h es' 0 L
    have M:es'.map (AC ei.length)=es'.map e9:=Kg fun z H=>QU (yt (L z H));have T:yr (es'.map e9):=zR.2 (S.imp fun h=>h);have U:wl (ls.map (AC ei.length))=es'.map e9:=by
     refine rS (rR (by rw[nm];exact k)) T ?_;rw[<-M];exact(X2 _).trans (C.map _).symm
    have V:=fun v m=>Oa h v m es';rcases hr with⟨b,_⟩|⟨_,b,_⟩|⟨_,_,b,_⟩|⟨_,_,_,b,d,f,g⟩|⟨_,_,_,b,v,z,s,J⟩
    ·exact absurd k b
    ·omega
    ·exact absurd b (A g3)
    ·rw[I]at b
     rcases hg with⟨q,r,n⟩|⟨q,_⟩|⟨q,_⟩|⟨q,_⟩
     ·subst r d f g
      exact⟨_,_,n,rfl,h,.inl ⟨by decide,rfl,rfl,rfl⟩⟩
     all_goals omega
    ·rw[I]at b
     rw[U]at s;unfold x4 at s;rw[V]at s;rcases hg with⟨q,_⟩|⟨q,r,i,n,k4⟩|⟨q,r,n,k4,k5⟩|⟨q,r,n,⟨o,D,o2,o3,W⟩,k5⟩
     ·omega
     ·rcases s with⟨j,c,u,E⟩|⟨c,_⟩|⟨c,_⟩
      ·rw[n]at c
       cases c;rcases J with⟨N,_⟩|⟨_,F,w⟩
       ·omega
       ·subst r u w
        exact⟨_,_,k4,rfl,h,.inr ⟨rfl,i,by omega,rfl,.inl ⟨rfl,rfl,Ju n⟩⟩⟩
      ·rw[n]at c;cases c
      ·rw[n]at c;cases c
     ·rcases s with⟨j,c,_⟩|⟨c,u,E,O⟩|⟨c,u,_⟩
      ·rw[r]at c;cases c
      ·rcases J with⟨_,F,w⟩|⟨N,_⟩
       ·subst k4 E F w
        exact⟨_,_,k5,rfl,h,.inl ⟨by decide,rfl,rfl,rfl⟩⟩
       ·omega
      ·have:=h.1;omega
     ·rcases s with⟨j,c,_⟩|⟨c,u,_⟩|⟨c,u,E,O⟩
      ·rw[r]at c;cases c
      ·have:=h.1;omega
      ·rcases J with⟨N,_⟩|⟨_,F,w⟩
       ·omega
       ·subst W E w
        refine⟨_,_,k5,rfl,AX h ⟨D.symm,fun h=>by rw[D]at h;exact absurd h (by decide),fun _=>by rw[o2];rfl,?_,fun h=>by rw[D]at h;exact absurd h (by decide),fun _=>rfl⟩ (.inr D),.inr ⟨rfl,ei.length,by rw[F,O,h.1],rfl,.inr ⟨rfl,by simp⟩⟩⟩;show ol ep (es'.map e9)=o.high;rw[o3,<-I,<-M];exact p4 ep (C.map _)
variable {ft:z1}
structure Sep (w:World)(FL FR FS:Nat->Prop):Prop where
 ll:∀k,FL k->k<w.heap.size
 rl:∀k,FR k->k<w.heap.size/\¬FL k
 sl:∀k,FS k->k<w.heap.size/\¬FL k
 rs:∀k,FR k->¬FS k
structure W3 (ft:z1)(FL FR FS:Nat->Prop)(w:World)(W s r:Nat)(ei ep:List Ob)(c5 c6 c7 c8 c9 c10 c11:Value):Prop where
 law:fI FL w W s r ei.length c5 c6 c7 c8 c9 c10 c11
 ref:eU FR w r ep
 qX:fK ft FS w s ei
 twin:Twin ei ep
 at_:gi ep
 sep:Sep w FL FR FS
theorem Sep.below(h:Sep w FL FR FS)(a:w.heap.size<=w'.heap.size):Sep w' FL FR FS:=
 ⟨fun k hk=>kv (h.ll k hk) a,fun k hk=>⟨kv (h.rl k hk).1 a,(h.rl k hk).2⟩,fun k hk=>⟨kv (h.sl k hk).1 a,(h.sl k hk).2⟩,h.rs⟩
theorem fI.keep{F F':Nat->Prop}{W s r n:Nat}{c5 c6 c7 c8 c9 c10 c11:Value}(h:fI F w W s r n c5 c6 c7 c8 c9 c10 c11)(hF:∀k,F k->F' k)(hk:∀k,F k->w'.heap[k]?=w.heap[k]?):fI F' w' W s r n c5 c6 c7 c8 c9 c10 c11:=by
 obtain⟨ia,ka,pa,ic,kc,pc,paths,hl,hp⟩:=h;exact⟨ia,ka,pa,ic,kc,pc,paths,hl.keep hF hk,hp⟩
section
variable {FL FR FS:Nat->Prop}{w:World}{W s r:Nat}{ei ep ip IR:List Ob}{c5 c6 c7 c8 c9 c10 c11:Value}
theorem W3.below(h:W3 ft FL FR FS w W s r ei ep c5 c6 c7 c8 c9 c10 c11)(a:gS w w'):W3 ft FL FR FS w' W s r ei ep c5 c6 c7 c8 c9 c10 c11:=
 ⟨h.law.keep (fun _ h=>h) (fun k hk=>a.block k (h.sep.ll k hk)),h.ref.keep (fun _ h=>h) (fun k hk=>a.block k (h.sep.rl k hk).1),fK.keep h.qX (fun _ h=>h) (fun k hk=>a.block k (h.sep.sl k hk).1),h.twin,h.at_,h.sep.below a.size⟩
def F3 (FL FR FS:Nat->Prop)(k:Nat):Prop:=FL k\/FR k\/FS k
def vn (FL FR FS GY GZ G0:Nat->Prop)(n:Nat):Prop:=∀k,(GY k->FL k\/n<=k)/\(GZ k->FR k\/n<=k)/\(G0 k->FS k\/n<=k)
theorem vn.all(h:vn FL FR FS GY GZ G0 n):∀k,F3 GY GZ G0 k->F3 FL FR FS k\/n<=k:=by
 rintro k (e|e|e)
 ·exact((h k).1 e).imp .inl id
 ·exact((h k).2.1 e).imp (fun x=>.inr (.inl x)) id
 ·exact((h k).2.2 e).imp (fun x=>.inr (.inr x)) id
theorem vn.refl:vn FL FR FS FL FR FS n:=fun k=>⟨.inl,.inl,.inl⟩
theorem vn.mono(h:vn FL FR FS GY GZ G0 n)(hm:m<=n):vn FL FR FS GY GZ G0 m:=fun k=>⟨fun e=>((h k).1 e).imp id (pD hm),fun e=>((h k).2.1 e).imp id (pD hm),fun e=>((h k).2.2 e).imp id (pD hm)⟩
theorem oM(hl:fI FL w W s r ei.length c5 c6 c7 c8 c9 c10 c11)(hr:eU FR w r IR)(hs:fK ft FS w s ip)(a:Sep w FL FR FS)(c:gi IR)(l:sG ei ip ep IR id ec x y)(m:y=0)(n:ei.length=ep.length):
  eK 37 #[fj W,ed x,ed id] w fun e w'=>e=.returned (.bool true)/\W3 ft (ie FL w w') FR FS w' W s r ip IR c5 c6 c7 c8 c9 c10 c11/\en FL w w':=by
 obtain⟨_,ht,h|⟨_,j,rfl,rfl,h⟩⟩:=l
 ·exact absurd m h.1
 ·have i:∀w':World,en FL w w'->Sep w' (ie FL w w') FR FS:=fun w' hk=>⟨fun k b=>by rcases b with h|h;exact kv (a.ll k h) hk.size;exact h.2,
   fun k b=>⟨kv (a.rl k b).1 hk.size,fun h=>by rcases h with h|h;exact(a.rl k b).2 h;have:=(a.rl k b).1;omega⟩,
   fun k b=>⟨kv (a.sl k b).1 hk.size,fun h=>by rcases h with h|h;exact(a.sl k b).2 h;have:=(a.sl k b).1;omega⟩,a.rs⟩
  rcases h with⟨rfl,rfl,hj⟩|⟨rfl,d⟩
  ·refine(oJ hl hr a.rl n.symm c j hj).mono fun e w' ⟨f,g,hk⟩=>⟨f,⟨g,lH hr a.rl hk,fK.keep hs (fun _ h=>h) (fun k b=>hk.block k (a.sl k b).1 (a.sl k b).2),ht,c,i w' hk⟩,hk⟩
  ·have o:IR.length=ei.length+1:=by rw[<-ht.1,d]
   refine(GX hl hr hs a.rl a.sl a.ll o d c (ht.2.1 ei.length (by omega) (by omega))).mono fun e w' ⟨f,g,hk⟩=>⟨f,⟨?_,lH hr a.rl hk,fK.keep hs (fun _ h=>h) (fun k b=>hk.block k (a.sl k b).1 (a.sl k b).2),ht,c,i w' hk⟩,hk⟩;rw[d];exact g
theorem yw{x:Ob}(h:gi ep)(hx:∀e∈x.eG,0<=e.2.2/\e.2.2<(ep.length:Int)):gi (ep++[x]):=by
 intro i hi e a;by_cases b:i<ep.length
 ·rw[Ge b]at a
  exact h i b e a
 ·have c:i=ep.length:=by simp at hi;omega
  subst c;rw[Qp (io _)]at a;simp at a;exact hx e a
theorem G3(h:gi ep)(hr:tG ep IR d x y):gi IR:=by
 rcases hr with⟨_,rfl,_⟩|⟨_,⟨_,_,rfl,_⟩|⟨_,_,rfl,_⟩|⟨_,_,rfl,_⟩⟩
 ·exact h
 ·exact h
 ·exact h
 ·exact yw h (fun e a=>by cases a)
theorem KZ{a:List eD}(h:gi ep)(hm:∀e∈a,e.2.2<(ep.length:Int))(hr:tI ep IR a x y):gi IR:=by
 rcases hr with⟨_,rfl,_⟩|⟨_,⟨_,rfl,_⟩|⟨_,_,rfl,_⟩|⟨_,_,_,rfl,_⟩|⟨_,_,_,_,rfl,_⟩|⟨_,_,hg,_,v,z,hp,_⟩⟩
 ·exact h
 ·exact h
 ·exact h
 ·exact h
 ·exact h
 ·rcases hp with⟨_,_,rfl,_⟩|⟨_,_,rfl,_⟩|⟨_,_,rfl,_⟩
  ·exact h
  ·exact h
  ·refine yw h (fun e c=>?_)
   have b:e∈a:=oC c;have h1:=hg e b;unfold jw at h1;simp only[uM,rL]at h1;exact⟨h1.1,hm e b⟩
end
variable {ft:z1}
def Stepped (ft:z1)(FL FR FS:Nat->Prop)(w w':World)(W s r:Nat)(c5 c6 c7 c8 c9 c10 c11:Value):Prop:=
 ∃GY GZ G0 ip IR,W3 ft GY GZ G0 w' W s r ip IR c5 c6 c7 c8 c9 c10 c11/\vn FL FR FS GY GZ G0 w.heap.size/\en (F3 FL FR FS) w w'
section
variable {FL FR FS:Nat->Prop}{w:World}{W s r:Nat}{ei ep:List Ob}{c5 c6 c7 c8 c9 c10 c11:Value}
theorem fI.cells(h:fI FL w W s r n c5 c6 c7 c8 c9 c10 c11):w.cell? (eb W 0)=some (fj s)/\w.cell? (eb W 1)=some (fj r)/\W<w.heap.size/\FL W:=by
 obtain⟨_,_,_,_,_,_,_,hl,_⟩:=h;exact⟨hl.c0,hl.c1,hl.lt,hl.fw⟩
theorem AY{c b w3:World}{S:eu}{e:Ending}(h:W3 ft FL FR FS w W s r ei ep c5 c6 c7 c8 c9 c10 c11)(d:gS w c)(hk:en FS c b)(hi:fK ft (ie FS c b) b s ip)(hl:fI FL b W s r ei.length c5 c6 c7 c8 c9 c10 c11)
  (f:en FR b.drew w3)(j:eU (ie FR b.drew w3) w3 r IR)(kZ:gL ei ip S e)(g:tG ep IR S x y)(l:e=.returned (.tuple #[ed id,ed ec])):
  sG ei ip ep IR id ec x y/\fI FL w3 W s r ei.length c5 c6 c7 c8 c9 c10 c11/\fK ft (ie FS c b) w3 s ip/\eU (ie FR b w3) w3 r IR/\Sep w3 FL (ie FR b w3) (ie FS c b)/\gi IR/\en (F3 FL FR FS) w w3:=by
 have q:=d.size;have t:=hk.size;have u:b.heap.size<=w3.heap.size:=f.size;obtain⟨m,n,i,o⟩:=G2 h.twin kZ g;rw[l]at i;have p:id=m/\ec=n:=by simpa using i
 obtain⟨rfl,rfl⟩:=p;have SV:∀k,k<b.heap.size->¬FR k->w3.heap[k]?=b.heap[k]?:=fun k hk hn=>f.block k hk hn;refine⟨o,hl.keep (fun _ h=>h) (fun k a=>SV k (by have:=h.sep.ll k a;omega) (fun hr=>(h.sep.rl k hr).2 a)),fK.keep hi (fun _ h=>h) (fun k a=>SV k ?_ (fun hr=>?_)),j,⟨fun k a=>by have:=h.sep.ll k a;omega,fun k a=>?_,fun k a=>?_,fun k a hs=>?_⟩,G3 h.at_ g,⟨?_,?_,?_,by omega,fun k a hn=>?_⟩⟩
 ·rcases a with h'|h'
  ·have:=(h.sep.sl k h').1;omega
  ·exact h'.2
 ·rcases a with h'|h'
  ·exact h.sep.rs k hr h'
  ·have:=(h.sep.rl k hr).1;omega
 ·rcases a with h'|h'
  ·exact⟨by have:=(h.sep.rl k h').1;omega,(h.sep.rl k h').2⟩
  ·exact⟨h'.2,fun hf=>by have:=h.sep.ll k hf;have:=h'.1;omega⟩
 ·rcases a with h'|h'
  ·exact⟨by have:=(h.sep.sl k h').1;omega,(h.sep.sl k h').2⟩
  ·exact⟨by have:=h'.2;omega,fun hf=>by have:=h.sep.ll k hf;have:=h'.1;omega⟩
 ·rcases a with h'|h'
  ·rcases hs with h2|h2
   ·exact h.sep.rs k h' h2
   ·have:=(h.sep.rl k h').1;have:=h2.1;omega
  ·rcases hs with h2|h2
   ·have:=(h.sep.sl k h2).1;have:=h'.1;omega
   ·have:=h'.1;have:=h2.2;omega
 ·exact f.os.trans (hk.os.trans d.os)
 ·exact f.tape.trans (hk.tape.trans d.tape)
 ·exact f.output.trans (hk.output.trans d.output)
 ·rw[SV k (by omega) (fun hr=>hn (.inr (.inl hr))),hk.block k (by omega) (fun hr=>hn (.inr (.inr hr))),d.block k a]
theorem z7(h:W3 ft FL FR FS w W s r ei ep c5 c6 c7 c8 c9 c10 c11)(a1 a2 a3:Int)(S T:eu)(la:e5)(lm lc:Nat)(hS:S.size<=maxLen):
  eK 20 #[fj W,.agg #[ed 1,ed a1,ed a2,ed a3,.string S,.string T,.slice la lm lc]] w fun e w'=>e=.returned (.bool true)/\Stepped ft FL FR FS w w' W s r c5 c6 c7 c8 c9 c10 c11:=by
 have d:Hid (W3 ft FL FR FS w W s r ei ep c5 c6 c7 c8 c9 c10 c11):=h;obtain⟨L,M,v,N⟩:=h.law.cells;obtain⟨B,n⟩:∃B:Obj,B=.cells #[ed 1,ed a1,ed a2,ed a3,.string S,.string T,.slice la lm lc] 57:=⟨_,rfl⟩;obtain⟨b,g⟩:∃b,b=w.alloc B:=⟨_,rfl⟩;have i:gS w b:=by rw[g];exact(i7 _ _).alloc (io _) B
 have O:gS w b.drew:=PP i 1;have h1:=h.below O;have z:=rP h1.qX S hS;have A:Hid _:=z;have P:b.cell? (eb w.heap.size 4)=some (.string S):=by rw[g,n];simp
 have Q:=(i.cell (p:=(eb W 0)) v).trans L;have R:=(i.cell (p:=(eb W 1)) v).trans M;have ai:b.heap.size=w.heap.size+1:=by rw[g];simp
 have U:Hid (W3 ft FL FR FS b.drew W s r ei ep c5 c6 c7 c8 c9 c10 c11):=h1;clear h z h1;go_enter func20,ntmps20;go_wp2;rw[<-n,<-g];have aj:Hid (B=.cells #[ed 1,ed a1,ed a2,ed a3,.string S,.string T,.slice la lm lc] 57):=n;have ak:Hid (b=w.alloc B):=g;clear n g
 go_region_with(first|(go_at_call 35;refine g7 A.out ?_;rintro e f ⟨ip,kZ,C,j⟩;obtain⟨id,ec,t⟩:=kZ.shape;have V:Hid (gL ei ip S e):=kZ;have X:Hid (e=.returned (.tuple #[ed id,ed ec])):=t;rw[t];clear kZ t))
 all_goals
  have o:en FS b f:=⟨j.os,j.tape,j.output,j.size,j.block⟩;have hkb:∀x,x<b.heap.size->¬FS x->f.heap[x]?=b.heap[x]?:=fun x hx hn=>o.block x hx hn;have D:¬FS W:=fun hf=>(U.out.sep.sl W hf).2 N;have Y:¬FS w.heap.size:=fun hf=>by have:=(d.out.sep.sl _ hf).1;omega
  have al:=(ig (a:=(eb W 0)) (hkb W (by omega) D)).trans Q;have am:=(ig (a:=(eb W 1)) (hkb W (by omega) D)).trans R;have an:=(ig (a:=(eb w.heap.size 4)) (hkb w.heap.size (by omega) Y)).trans P;have ao:b.heap.size<=f.heap.size:=o.size;have E:eU FR f.drew r ep:=d.out.ref.keep (fun _ h=>h) (fun k hk=>(hkb k (by have:=(d.out.sep.rl k hk).1;omega) (d.out.sep.rs k hk)).trans (i.block k (d.out.sep.rl k hk).1));have Z:Hid (fI FL f W s r ei.length c5 c6 c7 c8 c9 c10 c11):=d.out.law.keep (fun _ h=>h) (fun k hk=>(hkb k (by have:=d.out.sep.ll k hk;omega) (fun hf=>(d.out.sep.sl k hf).2 hk)).trans (i.block k (d.out.sep.ll k hk)));have aa:Hid (fK ft (ie FS b f) f s ip):=C;have ab:Hid (en FS b f):=o;have F:=tH E S hS;have ac:Hid _:=F;clear A C j o F E
  go_frame
  go_wp2
  go_region_with(first|(go_at_call 36;refine g7 ac.out ?_;rintro ap w3 ⟨x,y,IR,rfl,G,H,I⟩))
  all_goals
   have J:=AY d.out (show gS w b from i) ab.out aa.out Z.out I H V.out G X.out;have c:Hid _:=J;clear J G H I
   go_frame
   have K:=fun(e:Int) (ad:World)=>u3 e ad;obtain⟨ae,_,u⟩:=c.out.1;subst ae;by_cases q:ec=0
   ·have af:=oM c.out.2.1 c.out.2.2.2.1 c.out.2.2.1 c.out.2.2.2.2.1 c.out.2.2.2.2.2.1 c.out.1 q d.out.twin.1
    subst q;clear u;have aq:((0:Int) != 0)=false:=by simp
    go_wp2_with(first
     |(go_at_call 22;refine g7 (K _ _) ?_;rintro _ _ ⟨rfl,rfl⟩)
     |(go_at_call 37;refine g7 af ?_;rintro _ ar ⟨rfl,ag,m⟩))
    go_ret;refine⟨rfl,_,_,_,ip,IR,ag,?_,?_⟩
    ·have ah:=c.out.2.2.2.2.2.2.size
     refine fun k=>⟨?_,?_,?_⟩<;>rintro(h|h)
     ·exact .inl h
     ·exact .inr (pD ah h.1)
     ·exact .inl h
     ·have:=h.1;exact .inr (by omega)
     ·exact .inl h
     ·have:=h.1;exact .inr (by omega)
    ·have l:=c.out.2.2.2.2.2.2
     exact⟨m.os.trans l.os,m.tape.trans l.tape,m.output.trans l.output,pD l.size m.size,fun k hk hn=>(m.block k (kv hk l.size) (fun h=>hn (.inl h))).trans (l.block k hk hn)⟩
   ·have hid:id=0/\ip=ei/\IR=ep:=by
     rcases u with h|h
     ·exact h.2
     ·exact absurd h.1 q
    have au:(ec != 0)=true:=by simpa using q
    have av:(ec==ec)=true:=(by simp);obtain⟨rfl,rfl,rfl⟩:=hid;clear u;go_wp2_with(go_at_call 22;refine g7 (K _ _) ?_;rintro _ _ ⟨rfl,rfl⟩);go_ret;refine⟨rfl,_,_,_,ip,IR,⟨c.out.2.1,c.out.2.2.2.1,c.out.2.2.1,d.out.twin,d.out.at_,c.out.2.2.2.2.1⟩,?_,c.out.2.2.2.2.2.2⟩
    ·refine fun k=>⟨.inl,?_,?_⟩<;>rintro(h|h)
     ·exact .inl h
     ·have:=h.1;exact .inr (by omega)
     ·exact .inl h
     ·have:=h.1;exact .inr (by omega)
end
variable {ft:z1}
theorem K0(n:Nat)(x:Int):Cn (nB n) x=x:=by
 unfold Cn;split
 ·next h=>
  rw[m5]at h;have hj:(x-1).toNat<n:=by omega
  have:(nB n)[(x-1).toNat]?=some (((x-1).toNat:Int)+1):=qh hj
  rw[s5,this];show(((x-1).toNat:Int)+1)=x;omega
 ·rfl
section
variable {FL FR FS:Nat->Prop}{w:World}{W s r:Nat}{ei ep:List Ob}{c5 c6 c7 c8 c9 c10 c11:Value}
theorem W3.few(h:W3 ft FL FR FS w W s r ei ep c5 c6 c7 c8 c9 c10 c11):ei.length<=400/\ep.length=ei.length:=by
 obtain⟨_,_,hr⟩:=h.ref
 have:=hr.many
 have:=h.twin.1
 omega
theorem vZ(h:W3 ft FL FR FS w W s r ei ep c5 c6 c7 c8 c9 c10 c11)(x:Int):eK 39 #[fj W,ed x] w (tz (ed x) w):=by
 have hf:=h.few;obtain⟨_,_,_,_,_,_,_,hl,_⟩:=h.law
 have:=SN hl x (by rw[m5];exact hf.1)
 rw[K0]at this;exact this
theorem mj(h:W3 ft FL FR FS w W s r ei ep c5 c6 c7 c8 c9 c10 c11)(j:Nat)(hj:j<ei.length):eK 41 #[fj W,ed ((j:Int)+1)] w (tz (ed (j:Int)) w):=by
 have hf:=h.few;obtain⟨_,_,_,_,_,_,_,hl,_⟩:=h.law
 have:=qP hl ((j:Int)+1) (by rw[m5];exact hf.1)
 have e:=ym hj [];rw[nH]at e;rw[e]at this;exact this
theorem sH(h:W3 ft FL FR FS w W s r ei ep c5 c6 c7 c8 c9 c10 c11)(x:Int)(hx:x<1\/(ei.length:Int)<x):eK 41 #[fj W,ed x] w (tz (ed (-1)) w):=by
 have hf:=h.few;obtain⟨_,_,_,_,_,_,_,hl,_⟩:=h.law
 have:=qP hl x (by rw[m5];exact hf.1)
 have e:=AU hx [] (fun _ h=>by cases h);rw[nH]at e;rw[e]at this;exact this
theorem ua(h:W3 ft FL FR FS w W s r ei ep c5 c6 c7 c8 c9 c10 c11)(j:Nat)(hj:j<ei.length):eK 42 #[fj W,ed (j:Int)] w (tz (.int .i64 ei[j].kind) w):=by
 have hf:=h.few;obtain⟨_,_,_,_,_,_,_,hl,_⟩:=h.law
 have:=NT hl h.ref j (by omega)
 rw[(h.twin.2.1 j hj (by omega)).kind]at this;exact this
theorem yx(h:fK ft F w s ei)(x:Int)(hk:eC ei x≠1):
  eK 40 #[fj s,ed x] w (ml (.tuple #[.string ByteArray.empty,ed 13]) w):=by
 refine(rQ h x).mono fun e w' ⟨hf,a⟩=>⟨?_,a⟩;rcases hf with⟨_,h1⟩|⟨j,hj,b,h2,_⟩
 ·exact h1
 ·rw[b,o0 hj]at hk;exact absurd h2 hk
theorem W3.obj(h:W3 ft FL FR FS w W s r ei ep c5 c6 c7 c8 c9 c10 c11)(j:Nat)(hj:j<ei.length)(hk:ei[j].kind=1):∃g cap,w.cell? (eb r 0)=some (.slice (some (eb g 0)) ei.length cap)/\r<w.heap.size/\g<w.heap.size/\w.cell? (eb g (j*4+1))=some (.string ei[j].data):=by
 have hf:=h.few;have b:=(h.twin.2.1 j hj (by omega)).data hk;obtain⟨a,cap,hr⟩:=h.ref;have hl:ep.length=ei.length:=hf.2;obtain⟨g,rfl,hg,q0,c,d,e⟩:=iG hr.row rfl (show j<ep.length by omega);refine⟨g,cap,?_,hr.lt,hg,?_⟩
 ·rw[<-hl];exact hr.c0
 ·rw[<-b];exact c
theorem Ee(h:W3 ft FL FR FS w W s r ei ep c5 c6 c7 c8 c9 c10 c11)(a1 a a3:Int)(S T:eu)(la:e5)(lm lc:Nat)(c:a<1\/(ei.length:Int)<a):
  eK 20 #[fj W,.agg #[ed 3,ed a1,ed a,ed a3,.string S,.string T,.slice la lm lc]] w (ml (.bool true) w):=by
 obtain⟨t,u,v,x⟩:=h.law.cells;have b:∀B,gS w (w.alloc B):=fun B=>(i7 _ _).alloc (io _) _;have hid:=fun B=>vZ (h.below (b B)) a;have d:=fun B=>yx (h.below (b B)).qX a (by rw[wd c];decide);have f:=fun B W2 (k:Below (w.alloc B).heap.size (w.alloc B) W2)=>sH ((h.below (b B)).below k) a c;have g:=fun(W2:World)=>AB (W:=W) (w:=W2) (-1) (by decide);have i:=fun(e:Int) (l:World)=>u3 e l;have m:Hid _:=hid;have n:Hid _:=d;have o:Hid _:=f;have p:Hid _:=g;have q:Hid _:=i;clear hid d f g i h c;go_enter func20,ntmps20;go_wp2_with(first
  |(go_at_call 39;refine g7 (m.out _) ?_;rintro _ _ ⟨rfl,rfl⟩)
  |(go_at_call 40;refine g7 (n.out _) ?_;rintro _ y ⟨rfl,j⟩)
  |(go_at_call 41;refine g7 (o.out _ _ j) ?_;rintro _ _ ⟨rfl,rfl⟩)
  |(go_at_call 42;refine g7 (p.out _) ?_;rintro _ _ ⟨rfl,rfl⟩)
  |(go_at_call 22;refine g7 (q.out _ _) ?_;rintro _ _ ⟨rfl,rfl⟩))
 go_ret;exact⟨rfl,(b _).trans (j.mono (by simp))⟩
theorem Ef(h:W3 ft FL FR FS w W s r ei ep c5 c6 c7 c8 c9 c10 c11)(a1 a3:Int)(S T:eu)(la:e5)(lm lc:Nat)(j:Nat)(hj:j<ei.length)(hk:ei[j].kind≠1):
  eK 20 #[fj W,.agg #[ed 3,ed a1,ed ((j:Int)+1),ed a3,.string S,.string T,.slice la lm lc]] w (ml (.bool true) w):=by
 obtain⟨t,u,v,x⟩:=h.law.cells;have a:∀B,gS w (w.alloc B):=fun B=>(i7 _ _).alloc (io _) _;have hid:=fun B=>vZ (h.below (a B)) ((j:Int)+1);have g:=fun B=>yx (h.below (a B)).qX ((j:Int)+1) (by rw[o0 hj];exact hk);have i:=fun B W2 (b:Below (w.alloc B).heap.size (w.alloc B) W2)=>mj ((h.below (a B)).below b) j hj;have c:=fun B W2 (b:Below (w.alloc B).heap.size (w.alloc B) W2)=>ua ((h.below (a B)).below b) j hj;have k:=fun(e:Int) (l:World)=>u3 e l;obtain⟨d,mC⟩:∃d,d=ei[j].kind:=⟨_,rfl⟩;rw[<-mC]at hk c;have y:(d != 1)=true:=by simpa using hk
 have m:Hid _:=hid;have n:Hid _:=g;have o:Hid _:=i;have p:Hid _:=c;have q:Hid _:=k;clear hid g i c k h mC;go_enter func20,ntmps20;go_wp2_with(first
  |(go_at_call 39;refine g7 (m.out _) ?_;rintro _ _ ⟨rfl,rfl⟩)
  |(go_at_call 40;refine g7 (n.out _) ?_;rintro _ z ⟨rfl,f⟩)
  |(go_at_call 41;refine g7 (o.out _ _ f) ?_;rintro _ _ ⟨rfl,rfl⟩)
  |(go_at_call 42;refine g7 (p.out _ _ f) ?_;rintro _ _ ⟨rfl,rfl⟩)
  |(go_at_call 22;refine g7 (q.out _ _) ?_;rintro _ _ ⟨rfl,rfl⟩))
 go_ret;exact⟨rfl,(a _).trans (f.mono (by simp))⟩
theorem Cs(h:W3 ft FL FR FS w W s r ei ep c5 c6 c7 c8 c9 c10 c11)(a1 a3:Int)(S T:eu)(la:e5)(lm lc:Nat)(j:Nat)(hj:j<ei.length)(hk:ei[j].kind=1):
  eK 20 #[fj W,.agg #[ed 3,ed a1,ed ((j:Int)+1),ed a3,.string S,.string T,.slice la lm lc]] w (ml (.bool true) w):=by
 obtain⟨D,E,F,G⟩:=h.law.cells;have hf:=h.few;have a:∀B,gS w (w.alloc B):=fun B=>(i7 _ _).alloc (io _) _;have hid:=fun B=>vZ (h.below (a B)) ((j:Int)+1);have d:=fun B=>yl (h.below (a B)).qX j hj hk;have k:=fun B W2 (b:Below (w.alloc B).heap.size (w.alloc B) W2)=>mj ((h.below (a B)).below b) j hj;have f:=fun B W2 (b:Below (w.alloc B).heap.size (w.alloc B) W2)=>ua ((h.below (a B)).below b) j hj;rw[hk]at f;have i:=fun B W2 (b:Below (w.alloc B).heap.size (w.alloc B) W2)=>W3.obj ((h.below (a B)).below b) j hj hk;have hw:=fun B W2 (b:Below (w.alloc B).heap.size (w.alloc B) W2)=>fI.cells ((h.below (a B)).below b).law;have l:=fun(e:Int) (p:World)=>u3 e p;obtain⟨m,o⟩:∃m,m=ei[j].data:=⟨_,rfl⟩;rw[<-o]at i d;have q:Hid _:=hid;have t:Hid _:=d;have u:Hid _:=k;have v:Hid _:=f;have x:Hid _:=l;have y:Hid _:=i;have z:Hid _:=hw;obtain⟨n,hn⟩:∃n,n=ei.length:=⟨_,rfl⟩;have H:(j:Int)<(n:Int):=by omega
 have A:Hid (n=ei.length):=hn;clear hid d k f l h i hw hn hk o;go_enter func20,ntmps20;go_wp2_with(first
  |(go_at_call 39;refine g7 (q.out _) ?_;rintro _ _ ⟨rfl,rfl⟩)
  |(go_at_call 40;refine g7 (t.out _) ?_;rintro _ I ⟨rfl,c⟩;obtain⟨_,J,K,_⟩:=z.out _ _ c;obtain⟨g,cap,C,L,M,N⟩:=y.out _ _ c;rw[<-A.out]at C)
  |(go_at_call 41;refine g7 (u.out _ _ c) ?_;rintro _ _ ⟨rfl,rfl⟩)
  |(go_at_call 42;refine g7 (v.out _ _ c) ?_;rintro _ _ ⟨rfl,rfl⟩)
  |(go_at_call 22;refine g7 (x.out _ _) ?_;rintro _ _ ⟨rfl,rfl⟩))
 go_ret;exact⟨rfl,(a _).trans (c.mono (by simp))⟩
theorem kz(h:W3 ft FL FR FS w W s r ei ep c5 c6 c7 c8 c9 c10 c11)(a:gS w w'):Stepped ft FL FR FS w w' W s r c5 c6 c7 c8 c9 c10 c11:=
 ⟨FL,FR,FS,ei,ep,h.below a,vn.refl,en.ew a⟩
theorem z8(h:W3 ft FL FR FS w W s r ei ep c5 c6 c7 c8 c9 c10 c11)(a1 a a3:Int)(S T:eu)(la:e5)(lm lc:Nat):
  eK 20 #[fj W,.agg #[ed 3,ed a1,ed a,ed a3,.string S,.string T,.slice la lm lc]] w fun e w'=>e=.returned (.bool true)/\Stepped ft FL FR FS w w' W s r c5 c6 c7 c8 c9 c10 c11:=by
 by_cases d:a<1\/(ei.length:Int)<a
 ·exact(Ee h a1 a a3 S T la lm lc d).mono fun e w' ⟨b,c⟩=>⟨b,kz h c⟩
 ·obtain⟨j,rfl⟩:∃j:Nat,a=(j:Int)+1:=⟨(a-1).toNat,by omega⟩
  have hj:j<ei.length:=by omega
  by_cases hk:ei[j].kind=1
  ·exact(Cs h a1 a3 S T la lm lc j hj hk).mono fun e w' ⟨b,c⟩=>⟨b,kz h c⟩
  ·exact(Ef h a1 a3 S T la lm lc j hj hk).mono fun e w' ⟨b,c⟩=>⟨b,kz h c⟩
theorem Aa(h:W3 ft FL FR FS w W s r ei ep c5 c6 c7 c8 c9 c10 c11)(a1 i a3:Int)(S T:eu)(la:e5)(lm lc:Nat):
  eK 20 #[fj W,.agg #[ed 5,ed a1,ed i,ed a3,.string S,.string T,.slice la lm lc]] w fun e w'=>e=.returned (.bool true)/\Stepped ft FL FR FS w w' W s r c5 c6 c7 c8 c9 c10 c11:=by
 obtain⟨m,o,d,u⟩:=h.law.cells;obtain⟨B,j⟩:∃B:Obj,B=.cells #[ed 5,ed a1,ed i,ed a3,.string S,.string T,.slice la lm lc] 57:=⟨_,rfl⟩;obtain⟨b,f⟩:∃b,b=w.alloc B:=⟨_,rfl⟩;have c:gS w b:=by rw[f];exact(i7 _ _).alloc (io _) B
 have k:=fun q=>z6 (h.below (PP c q)).qX;have l:Hid _:=k;have v:=(c.cell (p:=(eb W 0)) d).trans m;have x:=(c.cell (p:=(eb W 1)) d).trans o;have hf:=h.few;have g:∃a cap,b.cell? (eb r 0)=some (.slice a ei.length cap)/\r<b.heap.size:=by
  obtain⟨a,cap,hr⟩:=(h.below c).ref;exact⟨a,cap,by rw[<-hf.2];exact hr.c0,hr.lt⟩
 obtain⟨y,z,g,A⟩:=g;have C:W<b.heap.size:=kv d c.size;have t:Hid (∀q,Stepped ft FL FR FS w (b.drewN q) W s r c5 c6 c7 c8 c9 c10 c11):=fun q=>kz h (PP c q);obtain⟨n,hn⟩:∃n,n=ei.length:=⟨_,rfl⟩;rw[<-hn]at l g;clear k h hf hn;go_enter func20,ntmps20;go_wp2;rw[<-j,<-f];clear j f
 go_quiet (first|(go_at_call 45;exact Calls.quiet_of_same (l.out _)))
 go_wp2;go_ret;exact⟨rfl,t.out _⟩
end
variable {ft:z1}
theorem Oe(i:Nat):sB (i / 4)=yq i:=rfl
structure Held (FH:Nat->Prop)(w:World)(ea:e5)(ec q:Nat)(hs:List fJ):Prop where
 len:hs.length=4*q
 row:w.ownsRow 0 55 1 (.slice ea (4*q) ec) (4*q) (hs.map fD)
 own:∀g,(Value.slice ea (4*q) ec).ownBlock=some g->FH g
 lists:∀i (hi:i<hs.length),hs[i].2.1<=19/\((hs[i].1=none/\hs[i].2.1=0)\/∃g,hs[i].1=some ⟨g,0,none⟩/\FH g/\w.ownsRow 0 96 3 (fD hs[i]) hs[i].2.1 (flat (List.replicate hs[i].2.1 (sB (i / 4)))))
 lt:∀k,FH k->k<w.heap.size
theorem Held.keep{ec q:Nat}(h:Held FH w ea ec q hs)(hk:∀k,FH k->w'.heap[k]?=w.heap[k]?)(b:w.heap.size<=w'.heap.size):Held FH w' ea ec q hs:=
 ⟨h.len,eh h.row (fun g hg=>hk g (h.own g hg)),h.own,fun i hi=>⟨(h.lists i hi).1,by
  rcases(h.lists i hi).2 with e|⟨g,a,e2,c⟩
  ·exact .inl e
  ·exact .inr ⟨g,a,e2,eh c (fun x hx=>by
    have:x=g:=by unfold fD at hx;rw[a]at hx;exact(wZ hx).symm
    rw[this];exact hk g e2)⟩⟩,fun k d=>kv (h.lt k d) b⟩
theorem Held.full{ec q:Nat}(h:Held FH w ea ec q hs):∀i (hi:i<hs.length),Full w i hs[i]:=by
 intro i hi j hj;rcases(h.lists i hi).2 with⟨_,e⟩|⟨g,b,_,a⟩
 ·omega
 ·unfold fD at a
  rw[b]at a;obtain⟨c,d,f⟩:=i2 (off:=0) (hh a) (i:=j) (by simpa using hj);rw[PH,List.getElem_replicate,Oe]at c d f;exact⟨g,b,c,d,f⟩
section
variable {FL FR FS FH:Nat->Prop}{w:World}{W s r:Nat}{ei ep:List Ob}{c5 c6 c7 c8 c9 c10 c11:Value}{ea:e5}{ec q:Nat}{hs:List fJ}
theorem W3.block(h:W3 ft FL FR FS w W s r ei ep c5 c6 c7 c8 c9 c10 c11):∃a a1 a2 a3 b,w.heap[W]?=some (.cells #[a,a1,a2,a3,b,c5,c6,c7,c8,c9,c10,c11] 71 (0,0)):=by
 obtain⟨_,_,_,_,_,_,_,hl,_⟩:=h.law;exact⟨_,_,_,_,_,hl.hW⟩
theorem AZ{C a1 a2 a3 D:Value}{la:e5}(h:W3 ft FL FR FS w W s r ei ep c5 c6 c7 c8 (.slice ea (4*q) ec) c10 c11)(a:Held FH w ea ec q hs)(hap:∀k,FH k->¬F3 FL FR FS k)(hm:m<=16)
  (l:∀g,(Value.slice la m m).ownBlock=some g->¬F3 FL FR FS g/\¬FH g/\g<w.heap.size)(J:la=none->m=0)(hW:w.heap[W]?=some (.cells #[C,a1,a2,a3,D,c5,c6,c7,c8,.slice ea (4*q) ec,c10,c11] 71 (0,0)))
  (hk:qW w w' W q #[C,a1,a2,a3,D,c5,c6,c7,c8,.slice ea (4*q) ec,c10,c11] ea ec la m hs):
  ∃u E F K,W3 ft FL FR FS w' W s r ei ep c5 c6 c7 c8 (.slice E (4*(q+1)) F) c10 c11/\Held u w' E F (q+1) K/\(∀k,u k->¬F3 FL FR FS k)/\(∀k,u k->FH k\/w.heap.size<=k\/some k=(Value.slice la m m).ownBlock)/\
   en (fun k=>k=W\/FH k\/some k=(Value.slice la m m).ownBlock) w w':=by
 obtain⟨G,c4,ga,V,X,Y,Z,aa,L,H,M,k4,k5,N,O,f⟩:=hk;have z:=f.size;have fW:FL W:=by obtain⟨_,_,_,_,_,_,_,hl,_⟩:=h.law;exact hl.fw
 have keep:∀k,k<w.heap.size->k≠W->¬FH k->(∀g,(Value.slice la m m).ownBlock=some g->k≠g)->w'.heap[k]?=w.heap[k]?:=fun k y hk2 P Q=>f.block k y (by
  rintro(e|e|e)
  ·exact hk2 e
  ·exact P (a.own k e.symm)
  ·exact Q k e.symm rfl)
 have n3:∀k,F3 FL FR FS k->¬FH k:=fun k hk hf=>hap k hf hk;have A:∀k,F3 FL FR FS k->∀g,(Value.slice la m m).ownBlock=some g->k≠g:=fun k hk g hg e=>(l g hg).1 (e▸hk);have R:fI FL w' W s r ei.length c5 c6 c7 c8 (.slice (some (eb G 0)) (4*(q+1)) c4) c10 c11:=by
  obtain⟨ia,ka,pa,ic,kc,pc,paths,hl,hp⟩:=h.law;have row:∀{t:fL} {v:Value} {n:Nat} {xs:fE},w.ownsRow 0 t 1 v n xs->71≠t->(∀g,v.ownBlock=some g->FL g)->w'.ownsRow 0 t 1 v n xs:=fun hr ht hf=>eh hr (fun g hg=>keep g (ee hr hg) (fun e=>eI hr hl.hW ht (by rw[<-e];exact hg.symm)) (n3 g (.inl (hf g hg))) (A g (.inl (hf g hg))));refine⟨ia,ka,pa,ic,kc,pc,paths,⟨hl.fw,?_,row hl.jI (by decide) hl.fi,row hl.mK (by decide) hl.fk,row hl.ny (by decide) hl.fp,hl.fi,hl.fk,hl.fp⟩,hp⟩;have e:=hW.symm.trans hl.hW;simp only[kE,Nc,Gn,pS,tj]at e;obtain⟨S,o,e2,p,T⟩:=e;rw[L,S,o,e2,p,T];rfl
 have I:∀k,FR k\/FS k->k≠W:=fun k hk e=>by
  rcases hk with h1|h1
  ·exact(h.sep.rl k h1).2 (e▸fW)
  ·exact(h.sep.sl k h1).2 (e▸fW)
 refine⟨fun k=>FH k\/(some k=(Value.slice la m m).ownBlock)\/(w.heap.size<=k/\k<w'.heap.size),some (eb G 0),c4,_,⟨R,h.ref.keep (fun _ h=>h) (fun k hk=>keep k (h.sep.rl k hk).1 (I k (.inl hk)) (n3 k (.inr (.inl hk))) (A k (.inr (.inl hk)))),fK.keep h.qX (fun _ h=>h) (fun k hk=>keep k (h.sep.sl k hk).1 (I k (.inr hk)) (n3 k (.inr (.inr hk))) (A k (.inr (.inr hk)))),h.twin,h.at_,h.sep.below z⟩,
  ⟨?_,H,?_,?_,?_⟩,?_,?_,⟨f.os,f.tape,f.output,f.size,fun k y hn=>f.block k y (by rintro(e|e|e);exact hn (.inl e);exact hn (.inr (.inl (a.own k e.symm)));exact hn (.inr (.inr e)))⟩⟩
 ·simp[a.len];omega
 ·intro g hg
  simp only[Value.ownBlock,kE]at hg;subst hg;rcases O with e|e
  ·exact .inl (a.own _ e.symm)
  ·exact .inr (.inr ⟨e,ee H rfl⟩)
 ·intro i hi
  by_cases B:i<hs.length
  ·rw[Ge B]
   refine⟨(a.lists i B).1,?_⟩;rcases(a.lists i B).2 with e|⟨g,o,e2,p⟩
   ·exact .inl e
   ·refine .inr ⟨g,o,.inl e2,eh p (fun x hx=>?_)⟩
    have U:x=g:=by unfold fD at hx;rw[o]at hx;exact(wZ hx).symm
    subst U;refine f.block x (a.lt x e2) ?_;rintro(e|e|e)
    ·subst e;exact hap _ e2 (.inl fW)
    ·exact ma p a.row (by decide) hx e
    ·exact(l x e.symm).2.1 e2
  ·obtain⟨d,rfl⟩:∃d,i=hs.length+d:=⟨i-hs.length,by omega⟩
   have hd:d<4:=by simp at hi;omega
   rw[Qp (by omega)];have hq:(hs.length+d) / 4=q:=by rw[a.len];omega
   simp only[Ka,hq];have new:∀{g n c:Nat},w'.ownsRow w.heap.size 96 3 (.slice (some (eb g 0)) n c) n (flat (List.replicate n (sB q)))->∃j,(some (eb g 0):e5)=some (eb j 0)/\(FH j\/(some j=(Value.slice la m m).ownBlock)\/(w.heap.size<=j/\j<w'.heap.size))/\w'.ownsRow 0 96 3 (.slice (some (eb g 0)) n c) n (flat (List.replicate n (sB q))):=fun {g n c} hr=>⟨g,rfl,.inr (.inr (hr.lt g rfl)),lw hr (oY _)⟩
   match d,hd with
   |0,_=>
    refine⟨show m<=19 by omega,?_⟩;cases la with
    |none=>exact .inl ⟨rfl,J rfl⟩
    |some b=>
     obtain⟨g,rfl,hr⟩:=M b rfl;exact .inr ⟨g,rfl,.inr (.inl rfl),hr⟩
   |1,_=>exact⟨show m+1<=19 by omega,.inr (new k4)⟩
   |2,_=>exact⟨show m+2<=19 by omega,.inr (new k5)⟩
   |3,_=>exact⟨show m+3<=19 by omega,.inr (new N)⟩
 ·rintro k (hk|hk|hk)
  ·exact kv (a.lt k hk) z
  ·exact kv (l k hk.symm).2.2 z
  ·exact hk.2
 ·rintro k (hk|hk|hk) hf
  ·exact hap k hk hf
  ·exact(l k hk.symm).1 hf
  ·have:k<w.heap.size:=by
    rcases hf with h1|h1|h1
    ·exact h.sep.ll k h1
    ·exact(h.sep.rl k h1).1
    ·exact(h.sep.sl k h1).1
   omega
 ·rintro k (hk|hk|hk)
  ·exact .inl hk
  ·exact .inr (.inr hk)
  ·exact .inr (.inl hk.1)
def oN (ft:z1)(FL FR FS FH:Nat->Prop)(w w':World)(W s r q:Nat)(c5 c6 c7 c8 c10 c11:Value):Prop:=
 ∃GY GZ G0 a ip IR b c d,W3 ft GY GZ G0 w' W s r ip IR c5 c6 c7 c8 (.slice b (4*q) c) c10 c11/\Held a w' b c q d/\(∀k,a k->¬F3 GY GZ G0 k)/\
  vn FL FR FS GY GZ G0 w.heap.size/\(∀k,a k->FH k\/w.heap.size<=k)/\en (fun k=>F3 FL FR FS k\/FH k) w w'
theorem ud(h:W3 ft FL FR FS w W s r ei ep c5 c6 c7 c8 (.slice ea (4*q) ec) c10 c11)(a:Held FH w ea ec q hs)(hap:∀k,FH k->¬F3 FL FR FS k)(c:Stepped ft FL FR FS w w' W s r c5 c6 c7 c8 (.slice ea (4*q) ec) c10 c11):oN ft FL FR FS FH w w' W s r q c5 c6 c7 c8 c10 c11:=by
 obtain⟨GY,GZ,G0,ip,IR,h3,b,hk⟩:=c;refine⟨GY,GZ,G0,FH,ip,IR,ea,ec,hs,h3,a.keep (fun k hf=>hk.block k (a.lt k hf) (hap k hf)) hk.size,fun k hf d=>?_,b,fun k f=>.inl f,⟨hk.os,hk.tape,hk.output,hk.size,fun k g hn=>hk.block k g (fun h=>hn (.inl h))⟩⟩
 ·rcases b.all k d with e|e
  ·exact hap k hf e
  ·have:=a.lt k hf;omega
end
variable {ft:z1}
theorem SX{t:fL}(P:Program)(W:World)(x y:eD)(h:(binOp .eql t (.agg #[.string x.1,ed x.2.1,ed x.2.2]) (.agg #[.string y.1,ed y.2.1,ed y.2.2])).run P W=(if x.fst.toList=y.fst.toList then
   if x.snd.fst=y.snd.fst then
    if x.snd.snd=y.snd.snd then Result.ok (Value.bool true) W else Result.ok (Value.bool false) W
   else Result.ok (Value.bool false) W
  else Result.ok (Value.bool false) W)):(binOp .eql t (.agg #[.string x.1,ed x.2.1,ed x.2.2]) (.agg #[.string y.1,ed y.2.1,ed y.2.2])).run P W=.ok (.bool (decide (x=y))) W:=by
 rw[h];by_cases e:x=y
 ·subst e;simp
 ·rw[m6 e]
  split
  ·next h1=>
   split
   ·next h2=>
    split
    ·next h3=>exact absurd (xN (pV h1) (xN h2 h3)) e
    ·rfl
   ·rfl
  ·rfl
theorem Og(W:World)(x y:eD):(binOp .eql 96 (.agg #[.string x.1,ed x.2.1,ed x.2.2]) (.agg #[.string y.1,ed y.2.1,ed y.2.2])).run prog W=.ok (.bool (decide (x=y))) W:=by
 refine SX _ W x y ?_
 go_simp
section
variable {FL FR FS FH:Nat->Prop}{w:World}{W s r:Nat}{ei ep:List Ob}{c5 c6 c7 c8 c9 c10 c11:Value}{ea:e5}{ec q:Nat}{hs:List fJ}
theorem Oh(h:W3 ft FL FR FS w W s r ei ep c5 c6 c7 c8 c9 c10 c11)(j:Nat)(hj:j<ei.length):
  eK 37 #[fj W,ed (j:Int),ed ((j:Int)+1)] w fun e w'=>e=.returned (.bool true)/\W3 ft (ie FL w w') FR FS w' W s r ei ep c5 c6 c7 c8 c9 c10 c11/\en FL w w':=by
 have a:=h.sep;have c:∀w':World,en FL w w'->Sep w' (ie FL w w') FR FS:=fun w' hk=>⟨fun k b=>by rcases b with h|h;exact kv (a.ll k h) hk.size;exact h.2,
   fun k b=>⟨kv (a.rl k b).1 hk.size,fun h=>by rcases h with h|h;exact(a.rl k b).2 h;have:=(a.rl k b).1;omega⟩,
   fun k b=>⟨kv (a.sl k b).1 hk.size,fun h=>by rcases h with h|h;exact(a.sl k b).2 h;have:=(a.sl k b).1;omega⟩,a.rs⟩
 exact(oJ h.law h.ref a.rl h.twin.1.symm h.at_ j hj).mono fun e w' ⟨d,f,hk⟩=>⟨d,⟨f,lH h.ref a.rl hk,fK.keep h.qX (fun _ h=>h) (fun k b=>hk.block k (a.sl k b).1 (a.sl k b).2),h.twin,h.at_,c w' hk⟩,hk⟩
theorem K1(h:fK ft F w s ei)(x:Int)(hk:eC ei x≠2):
  eK 43 #[fj s,ed x] w (ml (.tuple #[.slice none 0 0,ed 13]) w):=by
 refine(tY h x).mono fun e w' ⟨hf,a⟩=>⟨?_,a⟩;rcases hf with⟨_,h1⟩|⟨j,hj,b,h2,_⟩
 ·exact h1
 ·rw[b,o0 hj]at hk;exact absurd h2 hk
theorem Eg(W s r:Nat)(ei ep:List Ob)(c5 c6 c7 c8 c9 c10 c11:Value)(x:Int)(hx:eC ei x≠2):∃a b:Int,b≠2/\∀{FL FR FS:Nat->Prop} (w:World),W3 ft FL FR FS w W s r ei ep c5 c6 c7 c8 c9 c10 c11->
  eK 41 #[fj W,ed x] w ((tz (ed a) w))/\eK 42 #[fj W,ed a] w ((tz (ed b) w)):=by
 by_cases c:x<1\/(ei.length:Int)<x
 ·exact⟨-1,0,by decide,fun w h=>⟨sH h x c,AB (-1) (by decide)⟩⟩
 ·obtain⟨j,rfl⟩:∃j:Nat,x=(j:Int)+1:=⟨(x-1).toNat,by omega⟩
  have hj:j<ei.length:=by omega
  rw[o0 hj]at hx;exact⟨j,ei[j].kind,hx,fun w h=>⟨mj h j hj,ua h j hj⟩⟩
theorem Eh(h:W3 ft FL FR FS w W s r ei ep c5 c6 c7 c8 (.slice ea (4*q) ec) c10 c11)(d:Held FH w ea ec q hs)(hap:∀k,FH k->¬F3 FL FR FS k)(hq:4*q<=1000000000)(a1 i a3:Int)(S T:eu)(la:e5)(lm lc:Nat)(m:eC ei i≠2):
  eK 20 #[fj W,.agg #[ed 4,ed a1,ed i,ed a3,.string S,.string T,.slice la lm lc]] w fun e w'=>e=.returned (.bool true)/\oN ft FL FR FS FH w w' W s r (q+1) c5 c6 c7 c8 c10 c11:=by
 obtain⟨ac,ad,n,J⟩:=h.law.cells;obtain⟨u,v,x,y,z,hW⟩:=h.block;have o:∀B,gS w (w.alloc B):=fun B=>(i7 _ _).alloc (io _) _;have f:∀B W2,Below (w.alloc B).heap.size (w.alloc B) W2->gS w W2:=fun B W2 c=>(o B).trans (c.mono (by simp));have hid:=fun B=>vZ (h.below (o B)) i;have A:=fun B=>K1 (h.below (o B)).qX i m;obtain⟨ae,K,C,p⟩:=Eg W s r ei ep c5 c6 c7 c8 (.slice ea (4*q) ec) c10 c11 i m;have D:=fun B W2 (c:Below (w.alloc B).heap.size (w.alloc B) W2)=>(p W2 (h.below (f B W2 c))).1;have E:=fun B W2 (c:Below (w.alloc B).heap.size (w.alloc B) W2)=>(p W2 (h.below (f B W2 c))).2;have F:=fun(e:Int) (L:World)=>u3 e L;have G:=fun B W2 (c:Below (w.alloc B).heap.size (w.alloc B) W2)=>pH W q #[u,v,x,y,z,c5,c6,c7,c8,.slice ea (4*q) ec,c10,c11] ea ec 0 none hs W2 (((f B W2 c).block W n).trans hW) rfl d.len hq (eh d.row (fun g hg=>(f B W2 c).block g (ee d.row hg))) (by omega) ⟨fun _=>rfl,fun b h=>by cases h⟩;have M:Hid (∀B W2 t,Below (w.alloc B).heap.size (w.alloc B) W2->qW W2 t W q #[u,v,x,y,z,c5,c6,c7,c8,.slice ea (4*q) ec,c10,c11] ea ec none 0 hs->oN ft FL FR FS FH w t W s r (q+1) c5 c6 c7 c8 c10 c11):=fun B W2 t c hk=>by
  have a:=f B W2 c;obtain⟨N,O,P,Q,n1,n2,n3,R,j⟩:=AZ (h.below a) (d.keep (fun k hk=>a.block k (d.lt k hk)) a.size) hap (oY _) (fun g hg=>by cases hg) (fun _=>rfl) ((a.block W n).trans hW) hk;refine⟨FL,FR,FS,N,ei,ep,O,P,Q,n1,n2,n3,vn.refl,fun k e=>?_,⟨j.os.trans a.os,j.tape.trans a.tape,j.output.trans a.output,pD a.size j.size,fun k hk hn=>?_⟩⟩
  ·rcases R k e with e|e|e
   ·exact .inl e
   ·exact .inr (pD a.size e)
   ·cases e
  ·rw[j.block k (kv hk a.size) ?_]
   ·exact a.block k hk
   ·rintro(e|e|e)
    ·exact hn (.inl (.inl (e▸J)))
    ·exact hn (.inr e)
    ·cases e
 have af:(K==2)=false:=by simpa using C
 have U:Hid _:=hid;have V:Hid _:=A;have X:Hid _:=D;have Y:Hid _:=E;have Z:Hid _:=F;have aa:Hid _:=G;clear hid A D E F h d hap p G hW m C;go_enter func20,ntmps20;go_wp2_with(first
  |(go_at_call 39;refine g7 (U.out _) ?_;rintro _ _ ⟨rfl,rfl⟩)
  |(go_at_call 43;refine g7 (V.out _) ?_;rintro _ ag ⟨rfl,l⟩;have ah:=kv n (f _ _ l).size)
  |(go_at_call 41;refine g7 (X.out _ _ l) ?_;rintro _ _ ⟨rfl,rfl⟩)
  |(go_at_call 42;refine g7 (Y.out _ _ l) ?_;rintro _ _ ⟨rfl,rfl⟩)
  |(go_at_call 22;refine g7 (Z.out _ _) ?_;rintro _ _ ⟨rfl,rfl⟩)
  |(go_at_call 44;refine g7 (aa.out _ _ l) ?_;rintro _ ai ⟨rfl,H⟩;have I:=M.out _ _ _ l H;clear H;have ab:Hid _:=I;clear I))
 go_ret;exact⟨rfl,ab.out⟩
theorem W3.items(h:W3 ft FL FR FS w W s r ei ep c5 c6 c7 c8 c9 c10 c11)(j:Nat)(hj:j<ei.length)(hk:ei[j].kind=2):∃g cap ia ic,w.cell? (eb r 0)=some (.slice (some (eb g 0)) ei.length cap)/\r<w.heap.size/\g<w.heap.size/\
  w.cell? (eb g (j*4+2))=some (.slice ia ei[j].eG.length ic)/\w.ownsRow 0 112 3 (.slice ia ei[j].eG.length ic) ei[j].eG.length (flat (ei[j].eG.map e9)):=by
 have hf:=h.few;have hx:=(h.twin.2.1 j hj (by omega)).eG hk;obtain⟨a,cap,hr⟩:=h.ref;have b:j<ep.length:=by omega
 obtain⟨g,rfl,hg,q0,e,d,f⟩:=iG hr.row rfl b;have c:=hr.xe _ (iF b);have hle:ei[j].eG.length=ep[j].el:=by rw[<-c.len,hx,kU]
 refine⟨g,cap,ep[j].ea,ep[j].ec,?_,hr.lt,hg,?_,?_⟩
 ·rw[<-hf.2];exact hr.c0
 ·rw[hle];exact d
 ·rw[hle,<-hx];exact c.row
theorem W3.TT(h:W3 ft FL FR FS w W s r ei ep c5 c6 c7 c8 c9 c10 c11)(j:Nat)(hj:j<ei.length)(hk:ei[j].kind=2):ei[j].eG.length<=16/\∀e∈ei[j].eG,1<=e.2.2/\e.2.2<=(j:Int):=by
 have hf:=h.few;have hx:=(h.twin.2.1 j hj (by omega)).eG hk;have b:=h.at_ j (by omega);obtain⟨a,cap,hr⟩:=h.ref;have d:j<ep.length:=by omega
 have c:=hr.xe _ (iF d);have hle:ei[j].eG.length=ep[j].el:=by rw[<-c.len,hx,kU]
 refine⟨by rw[hle];exact c.few,fun e f=>?_⟩;rw[hx]at b
 have:0<=e.2.2-1/\e.2.2-1<(j:Int):=b (e9 e) (zP f)
 omega
theorem W3.ids(h:W3 ft FL FR FS w W s r ei ep c5 c6 c7 c8 c9 c10 c11)(i:Nat)(hi:i<ei.length):∃g c,w.cell? (eb W 2)=some (.slice (some (eb g 0)) ei.length c)/\g<w.heap.size/\w.cell? (eb g i)=some (ed ((i:Int)+1)):=by
 obtain⟨ia,_,_,ic,_,_,_,hl,_⟩:=h.law;obtain⟨g,rfl,a,b,_⟩:=row_one hl.jI (i:=i) (v:=.int .i64 ((i:Int)+1)) (by simp[encI,qh hi]);refine⟨g,ic,?_,a,b⟩
 have:=hl.c2
 rw[m5]at this;exact this
end
end Go.Proofs.YtlgidcmmgohagaaGreat
